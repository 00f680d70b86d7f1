"""Two orders of layers that stand open, one of each kind."""

from digbook.chains import standing
from digbook.deposits import deposit_names, deposit_of, links
from digbook.ways import laid_in_turn

SUPPOSED = "supposed"


# Where neither is later than the other, a link of the two, either way about, makes
# no ring: so with it there is an order, and that keeps all other links too.
def two_orders(ground, one, other):
    if standing(ground, one, other) != "open":
        return None
    first = deposit_of(ground, one)
    second = deposit_of(ground, other)
    return (order_with(ground, second, first), order_with(ground, first, second))


def order_with(ground, later, earlier):
    return laid_in_turn(deposit_names(ground), links(ground) + [(later, earlier, SUPPOSED)])
