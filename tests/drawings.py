"""Cuts and grounds for the tests, drawn by fixed seeds, and a plain reading of the cuts."""

import random

from digbook.ground import Ground

ALPHABET = "abcdefghijklmnopqrstuvwxyz"


def drawn_cut(seed, most_rows=8, most_signs=8, kinds="abcd"):
    """A cut: each place has some air at the top, then letters down to the last row."""
    chance = random.Random(seed)
    height = chance.randint(1, most_rows)
    length = chance.randint(1, most_signs)
    columns = []
    for place in range(length):
        air = chance.randint(0, height - (1 if place == 0 else 0))
        columns.append("." * air + "".join(chance.choice(kinds) for _ in range(height - air)))
    return "\n".join("".join(signs) for signs in zip(*columns))


def is_right_above(text, upper, lower):
    """Whether somewhere in the drawing upper stands right above lower, sign by sign."""
    length = text.find("\n") if "\n" in text else len(text)
    for place in range(len(text) - length - 1):
        if text[place] == upper and text[place + length + 1] == lower:
            return True
    return False


def met_pairs(text):
    """All met pairs of unlike letters, each pair of letters tried by itself."""
    signs = letters_drawn(text)
    return [(a, b) for a in signs for b in signs if a != b and is_right_above(text, a, b)]


def letters_drawn(text):
    return sorted(set(text) - set(".\n"))


def flat(letters, *pairs):
    """A cut n without meetings, and a later-saying for each pair of letters."""
    return Ground([("n", letters)], [("later", "n." + one, "n." + other) for one, other in pairs])


def free_ground(seed):
    """A small ground in which nothing keeps rings away: some are torn, some are not."""
    chance = random.Random(seed)
    cuts = []
    for name in chance.sample(["n", "na", "s", "w", "e"], chance.randint(1, 4)):
        cuts.append((name, drawn_cut(chance.random(), chance.randint(1, 3), 3, "abcde")))
    layers = [name + "." + letter for name, text in cuts for letter in letters_drawn(text)]
    sayings = [free_saying(chance, layers) for _ in range(chance.randint(0, 8) if len(layers) > 1 else 0)]
    return Ground(cuts, sayings)


def free_saying(chance, layers):
    word = chance.choice(("later", "later", "later", "same", "same", "since", "by"))
    if word in ("since", "by"):
        return (word, chance.choice(layers), chance.randint(-50, 50))
    return (word, *chance.sample(layers, 2))


def settled_cut(chance, times, height, length):
    """A cut of just the letters of times, in each place the later ones above the earlier ones."""
    columns = []
    for place in range(length):
        column = [chance.choice(list(times)) for _ in range(height)]
        if place == 0:
            column = (list(times) + column)[:height]
        columns.append(sorted(column, key=times.get, reverse=True))
    return "\n".join("".join(signs) for signs in zip(*columns))


def broad_cut(chance, times, height, length):
    """A cut of just the letters of times, in each place two of them or one, so that many stand open."""
    columns = []
    for place in range(length):
        pair = sorted((list(times)[place % len(times)], chance.choice(list(times))), key=times.get, reverse=True)
        columns.append(pair[0] * (height // 2) + pair[1] * (height - height // 2))
    return "\n".join("".join(signs) for signs in zip(*columns))


def settled_ground(seed, names=("n", "na", "s", "w"), kinds=4, height=5, length=2, sayings=8, years=12, untrue=0,
                   draw=settled_cut):
    """A ground of which each layer has a year of its own that all ties and sayings keep to,
    but for so many later-sayings at the end as are untrue."""
    chance = random.Random(seed)
    cuts, year_of = [], {}
    for name in names:
        times = dict(zip(chance.sample(ALPHABET, kinds), chance.sample(range(years), kinds)))
        cuts.append((name, draw(chance, times, height, length)))
        year_of.update((name + "." + letter, year) for letter, year in times.items())
    pairs = [(one, other) for one in year_of for other in year_of if one != other]
    true = [("same" if year_of[one] == year_of[other] else "later", one, other)
            for one, other in pairs if year_of[one] >= year_of[other]]
    same = [saying for saying in true if saying[0] == "same"]
    said = [chance.choice(same if same and chance.random() < 0.4 else true) for _ in range(sayings)]
    wrong = [("later", one, other) for one, other in pairs if year_of[one] <= year_of[other]]
    return Ground(cuts, said + chance.sample(wrong, untrue))


def broad_ground(seed, names=("n", "s"), kinds=4, length=6, sayings=3):
    return settled_ground(seed, names, kinds, 2, length, sayings, 30, draw=broad_cut)


def with_years(ground, seed, count=8, first=1, last=9):
    """The ground with so many sayings of years more, somewhere among the others."""
    chance = random.Random(seed)
    said = ground.sayings()
    for _ in range(count):
        saying = (chance.choice(("since", "by")), chance.choice(ground.layers()), chance.randint(first, last))
        said.insert(chance.randint(0, len(said)), saying)
    return Ground(ground.cuts(), said)


def without(ground, numbers):
    """The ground without the sayings of these numbers."""
    return Ground(ground.cuts(), [saying for number, saying in enumerate(ground.sayings()) if number not in numbers])


def dated_grounds(count):
    """Grounds of several kinds, some torn, with sayings of years that clash often, seldom and not at all."""
    told = []
    for seed in range(count):
        told.append(with_years(free_ground(seed), seed, seed % 9))
        told.append(with_years(broad_ground(seed), seed, seed % 7, 1, 3))
        told.append(with_years(settled_ground(seed, ("n", "s"), sayings=4), seed, seed % 11, -20, 20))
    return told


def greatest_names():
    return ["cutaaaa" + letter for letter in ALPHABET[:8]]


def greatest_ground(seed, sayings=60, untrue=0):
    """Eight cuts of forty rows, forty signs and twenty-six letters."""
    return settled_ground(seed, greatest_names(), 26, 40, 40, sayings, 300, untrue)


def greatest_broad_ground(seed, sayings=60):
    """As great, but with two letters only in each place, so that many deposits stand open."""
    return settled_ground(seed, greatest_names(), 26, 40, 40, sayings, 300, draw=broad_cut)


def greatest_free_ground(seed):
    """As great, but each sign drawn for itself, so rings are everywhere."""
    chance = random.Random(seed)
    cuts = [(name, "\n".join("".join(chance.choice(ALPHABET) for _ in range(40)) for _ in range(40)))
            for name in greatest_names()]
    layers = [name + "." + letter for name in greatest_names() for letter in ALPHABET]
    return Ground(cuts, [free_saying(chance, layers) for _ in range(60)])


def long_row_ground(closed):
    """Eight cuts of twenty-six layers each, one on the other, and each cut right on the next one:
    208 deposits in one row; closed, the last one is said to be later than the first one."""
    names = greatest_names()
    cuts = [(name, "\n".join(ALPHABET)) for name in names]
    said = [("later", upper + ".z", lower + ".a") for upper, lower in zip(names, names[1:])]
    if closed:
        said.append(("later", names[-1] + ".z", names[0] + ".a"))
    return Ground(cuts, said)
