"""Orders in which all deposits can have been laid, the earlier ones ahead."""

from digbook.deposits import deposit_names
from digbook.rings import untorn_links
from digbook.ways import laid_in_turn


def order(ground):
    found = untorn_links(ground)
    return laid_in_turn(deposit_names(ground), found)


def is_order(ground, some):
    found = untorn_links(ground)
    if sorted(some) != deposit_names(ground):
        return False
    places = {}
    for place, name in enumerate(some):
        places[name] = place
    return all([places[earlier] < places[later] for later, earlier, source in found])
