"""Years: which fit each deposit, which sayings of them clash, and why a bound is so."""

from digbook.chains import chain, earlier_ones
from digbook.deposits import deposit_names, deposit_of, names_by_layer
from digbook.ground import FIRST_YEAR, LAST_YEAR

NUMBER = 0
DEPOSIT = 1
YEAR = 2


def bounds(ground):
    reach = earlier_ones(ground)
    sinces = years_said(ground, "since")
    bys = years_said(ground, "by")
    told = {}
    for name in deposit_names(ground):
        least = max([said[YEAR] for said in sinces_beneath(sinces, reach, name)], default=FIRST_YEAR)
        greatest = min([said[YEAR] for said in bys_above(bys, reach, name)], default=LAST_YEAR)
        told[name] = (least, greatest)
    return told


# Of each saying of this word its number among all sayings, its layer's deposit and its year.
def years_said(ground, word):
    names = names_by_layer(ground)
    sayings = ground.sayings()
    return [(number, names[saying[1]], saying[2]) for number, saying in enumerate(sayings) if saying[0] == word]


def sinces_beneath(sinces, reach, name):
    return [said for said in sinces if is_one_or_later(reach, name, said[DEPOSIT])]


def bys_above(bys, reach, name):
    return [said for said in bys if is_one_or_later(reach, said[DEPOSIT], name)]


def is_one_or_later(reach, upper, lower):
    return upper == lower or lower in reach[upper]


# By the since-sayings' numbers, for each of them by the by-sayings'.
def clashing_pairs(ground):
    reach = earlier_ones(ground)
    bys = years_said(ground, "by")
    pairs = []
    for number, name, year in years_said(ground, "since"):
        pairs.extend([(number, said[NUMBER]) for said in bys_above(bys, reach, name) if year > said[YEAR]])
    return pairs


def clash(ground):
    pairs = clashing_pairs(ground)
    if len(pairs) == 0:
        return None
    since = pairs[0][0]
    by = pairs[0][1]
    sayings = ground.sayings()
    return (since, by, chain_or_nothing(ground, sayings[by][1], sayings[since][1]))


# Asked only of two layers that are of one deposit or have a chain from the one to the other.
def chain_or_nothing(ground, one, other):
    found = chain(ground, one, other)
    return [] if found is None else found


# Of several that max or min could give it gives the first one, which has the least number.
def why_least(ground, layer):
    reach = earlier_ones(ground)
    name = deposit_of(ground, layer)
    binding = sinces_beneath(years_said(ground, "since"), reach, name)
    if len(binding) == 0:
        return None
    said = max(binding, key=year_of)
    return (said[NUMBER], chain_or_nothing(ground, name, said[DEPOSIT]))


def why_greatest(ground, layer):
    reach = earlier_ones(ground)
    name = deposit_of(ground, layer)
    binding = bys_above(years_said(ground, "by"), reach, name)
    if len(binding) == 0:
        return None
    said = min(binding, key=year_of)
    return (said[NUMBER], chain_or_nothing(ground, said[DEPOSIT], name))


def year_of(said):
    return said[YEAR]
