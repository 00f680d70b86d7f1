"""All that can be asked of a ground, and ways to spoil what is told."""

from digbook.chains import chain, standing
from digbook.deposits import deposit_of, deposits, links
from digbook.direct import direct_pairs, levels
from digbook.errors import Torn
from digbook.opens import two_orders
from digbook.orders import is_order, order
from digbook.rings import ring
from digbook.rows import fewest_rows, widest
from digbook.wrong import fewest_wrong
from digbook.years import bounds, clash, why_greatest, why_least

# What is asked of the ground alone, ahead of the rings and behind; of one layer; of two.
AHEAD = (deposits, links, ring)
BEHIND = (order, direct_pairs, levels, fewest_rows, widest, bounds, clash, fewest_wrong)
OF_ONE = (deposit_of, why_least, why_greatest)
OF_TWO = (chain, standing, two_orders)


def questions(ground):
    """What can be asked of a ground, each function with its arguments; of the pairs of layers some."""
    layers = ground.layers()
    asked = [(tell, ground) for tell in AHEAD + BEHIND]
    asked += [(tell, ground, layer) for tell in OF_ONE for layer in layers]
    asked += [(is_order, ground, some) for some in (layers, layers[::-1], deposits(ground)[0], [])]
    for one, other in list(zip(layers, layers[::-1])) + list(zip(layers, layers[3:])):
        asked += [(tell, ground, one, other) for tell in OF_TWO]
    return asked


def answer(tell, *things):
    try:
        return tell(*things)
    except Torn as error:
        return error.ring


def all_told(ground):
    return [answer(*asked) for asked in questions(ground)]


def own_things(ground):
    return [ground.cuts(), ground.sayings(), ground.layers(), ground.ties()]


def parts_of(told):
    """All lists and dicts in what is told, however deep, itself among them."""
    inner = list(told.values()) if isinstance(told, dict) else told if isinstance(told, (list, tuple)) else []
    parts = [told] if isinstance(told, (list, dict)) else []
    for part in inner:
        parts += parts_of(part)
    return parts


def spoil(told):
    """Changes each told list and dict in every way."""
    for part in parts_of(told):
        if isinstance(part, dict):
            part.update(dict.fromkeys(part, "other"), more=None)
        elif part:
            part.reverse()
            part.append("more")
            part[0] = None
