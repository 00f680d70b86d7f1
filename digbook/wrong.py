"""The fewest sayings of years that must be wrong."""

from digbook.ways import most_pairs, one_of_each_pair
from digbook.years import clashing_pairs


# Of each of the told pairs one saying must be wrong, so no fewer will do; and one of each is enough.
def fewest_wrong(ground):
    partners = {}
    for since, by in clashing_pairs(ground):
        partners.setdefault(since, []).append(by)
    held_by = most_pairs(partners)
    pairs = [(since, by) for by, since in held_by.items()]
    return (sorted(one_of_each_pair(partners, held_by)), sorted(pairs))
