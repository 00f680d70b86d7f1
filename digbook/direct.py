"""Direct pairs: the links that no chain replaces; and how many links lie beneath each deposit."""

from digbook.chains import earlier_ones
from digbook.deposits import deposit_names
from digbook.rings import untorn_links
from digbook.ways import EARLIER, laid_in_turn, links_by_later


def direct_pairs(ground):
    beneath = links_by_later(untorn_links(ground))
    reach = earlier_ones(ground)
    pairs = []
    for later in beneath:
        steps = sorted(set([link[EARLIER] for link in beneath[later]]))
        pairs.extend([(later, earlier) for earlier in steps if not is_replaced(reach, steps, earlier)])
    return sorted(pairs)


# A chain of two links or more begins with a link too, and goes on from where that leads.
def is_replaced(reach, steps, earlier):
    return any([earlier in reach[step] for step in steps])


def levels(ground):
    found = untorn_links(ground)
    beneath = links_by_later(found)
    told = {}
    for name in laid_in_turn(deposit_names(ground), found):
        told[name] = max([told[link[EARLIER]] + 1 for link in beneath.get(name, [])], default=0)
    return told
