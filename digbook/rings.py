"""Rings: links that lead back to where they begin, and so cannot all be so."""

from digbook.deposits import deposit_names, links
from digbook.errors import Torn
from digbook.ways import laid_in_turn, links_by_later, shortest_way


def ring(ground):
    return shortest_ring(deposit_names(ground), links(ground))


def shortest_ring(names, found):
    beneath = links_by_later(found)
    shortest = None
    for name in never_laid(names, found):
        way = shortest_way(beneath, name, name)
        if way is not None and (shortest is None or len(way) < len(shortest)):
            shortest = way
    return shortest


# Every ring runs through these alone; where there are none, there is no ring to look for.
def never_laid(names, found):
    return sorted(set(names) - set(laid_in_turn(names, found)))


def untorn_links(ground):
    found = links(ground)
    torn_by = shortest_ring(deposit_names(ground), found)
    if torn_by is not None:
        raise Torn(torn_by)
    return found
