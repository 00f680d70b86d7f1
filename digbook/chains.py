"""Chains: links from a layer's deposit to an earlier one, and how two layers stand."""

from digbook.deposits import deposit_names, deposit_of
from digbook.rings import untorn_links
from digbook.ways import all_beneath, links_by_later, shortest_way


# Two layers of one deposit need no asking: without a ring no way leads back to it.
def chain(ground, one, other):
    beneath = links_by_later(untorn_links(ground))
    return shortest_way(beneath, deposit_of(ground, one), deposit_of(ground, other))


def standing(ground, one, other):
    beneath = links_by_later(untorn_links(ground))
    first = deposit_of(ground, one)
    second = deposit_of(ground, other)
    if first == second:
        return "one"
    if shortest_way(beneath, first, second) is not None:
        return "later"
    if shortest_way(beneath, second, first) is not None:
        return "earlier"
    return "open"


def earlier_ones(ground):
    found = untorn_links(ground)
    return all_beneath(deposit_names(ground), found)
