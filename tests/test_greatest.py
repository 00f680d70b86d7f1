"""The greatest grounds that point 6 lets by: all is told of them, as it should be and within seconds."""

import time
import unittest

from asking import BEHIND, OF_TWO
from digbook.chains import chain, standing
from digbook.deposits import deposit_of, deposits, links
from digbook.direct import direct_pairs, levels
from digbook.errors import Torn
from digbook.ground import Ground
from digbook.opens import two_orders
from digbook.orders import is_order, order
from digbook.rings import ring
from digbook.rows import fewest_rows, widest
from digbook.wrong import fewest_wrong
from digbook.years import bounds, clash, why_greatest, why_least
from drawings import (ALPHABET, greatest_broad_ground, greatest_free_ground, greatest_ground, greatest_names,
                      long_row_ground, with_years)
from readings import (ReadingCase, fewest_links, fewest_of_a_ring, keeps_all_links, least_in_turn, plain_bounds,
                      plain_direct, plain_groups, plain_links, plain_names)

MOST_SECONDS = 5


def ask(tell, *things):
    """What is told, if it is told soon."""
    begun = time.monotonic()
    try:
        return tell(*things)
    finally:
        if time.monotonic() - begun > MOST_SECONDS:
            raise AssertionError(f"{tell.__name__} took more than {MOST_SECONDS} seconds")


def torn_ring(tell, *things):
    try:
        ask(tell, *things)
    except Torn as error:
        return error.ring
    raise AssertionError(f"{tell.__name__} is not refused with Torn")


def some_pairs(ground):
    """A part of the pairs of layers, each layer in some of them."""
    layers = ground.layers()
    return list(zip(layers, layers[::-1])) + list(zip(layers, layers[5:]))


class GreatestCase(ReadingCase):
    def check_deposits(self, ground):
        self.assertEqual(ask(deposits, ground), plain_groups(ground))
        self.assertEqual(ask(links, ground), plain_links(ground))
        names = plain_names(ground)
        for layer in ground.layers():
            self.assertEqual(ask(deposit_of, ground, layer), names[layer])

    def check_orders(self, ground):
        self.assertIsNone(ask(ring, ground))
        told = ask(order, ground)
        self.assertEqual(told, least_in_turn(ground))
        self.check_order(ground, told)
        back = told[::-1]
        for some, asked in ((told, True), (back, keeps_all_links(ground, back)), (told[1:], False), (told * 2, False)):
            self.assertIs(ask(is_order, ground, some), asked)

    def check_pairs(self, ground):
        names, counts = plain_names(ground), fewest_links(ground)
        for one, other in some_pairs(ground):
            count = counts.get((names[one], names[other]))
            back = counts.get((names[other], names[one]))
            if count is None:
                self.assertIsNone(ask(chain, ground, one, other))
            else:
                self.check_chain(ground, ask(chain, ground, one, other), one, other, count)
            asked = "later" if count else "earlier" if back else "one" if names[one] == names[other] else "open"
            self.assertEqual(ask(standing, ground, one, other), asked)

    def check_two_orders(self, ground):
        names = plain_names(ground)
        for one, other in some_pairs(ground)[::9]:
            told = ask(two_orders, ground, one, other)
            self.assertEqual(told is not None, standing(ground, one, other) == "open")
            for place, some in enumerate(told or ()):
                self.check_order(ground, some)
                self.assertIs(some.index(names[one]) < some.index(names[other]), place == 0)

    def check_levels(self, ground):
        """By what lies right beneath alone: one more than the greatest level there."""
        told, beneath = ask(levels, ground), {}
        for later, earlier, _ in plain_links(ground):
            beneath.setdefault(later, []).append(told[earlier] + 1)
        self.assertEqual(told, {group[0]: max(beneath.get(group[0], [0])) for group in plain_groups(ground)})

    def check_rows_and_set(self, ground):
        """No fewer rows do than there are in a set of which none is later than another one, nor is one wider."""
        rows, some = ask(fewest_rows, ground), ask(widest, ground)
        self.check_rows(ground, rows, len(some))
        self.check_widest(ground, some, len(rows))

    def check_years(self, ground):
        self.assertEqual(ask(bounds, ground), plain_bounds(ground))
        self.check_clash(ground, ask(clash, ground))
        self.check_wrong(ground, ask(fewest_wrong, ground))
        for layer in ground.layers()[::12]:
            self.check_whys(ground, layer, ask(why_least, ground, layer), ask(why_greatest, ground, layer))

    def check_untorn(self, ground):
        self.check_deposits(ground)
        self.check_orders(ground)
        self.check_pairs(ground)
        self.check_two_orders(ground)
        self.assertEqual(ask(direct_pairs, ground), plain_direct(ground))
        self.check_levels(ground)
        self.check_rows_and_set(ground)
        self.check_years(ground)

    def check_torn(self, ground, count):
        self.check_deposits(ground)
        self.check_ring(ground, ask(ring, ground), count)
        layers = ground.layers()
        self.check_ring(ground, torn_ring(is_order, ground, layers), count)
        for tell in BEHIND:
            self.check_ring(ground, torn_ring(tell, ground), count)
        for tell in (why_least, why_greatest):
            self.check_ring(ground, torn_ring(tell, ground, layers[-1]), count)
        for tell in OF_TWO:
            self.check_ring(ground, torn_ring(tell, ground, layers[0], layers[-1]), count)


class Greatest(GreatestCase):
    def test_eight_great_cuts_and_sixty_sayings(self):
        for ground in (greatest_ground(0), greatest_ground(1), greatest_broad_ground(0), greatest_broad_ground(1)):
            self.assertEqual((len(ground.cuts()), len(ground.sayings()), len(ground.layers())), (8, 60, 208))
            self.assertTrue(all(len(text) == 40 * 41 - 1 for _, text in ground.cuts()))
            self.check_untorn(ground)
        self.assertGreater(len(widest(ground)), 30)

    def test_sixty_sayings_of_years(self):
        counts = []
        for seed in range(3):
            for first, last in ((-9999, 9999), (1, 20)):
                for make in (greatest_ground, greatest_broad_ground):
                    ground = with_years(make(seed, 0), seed, 60, first, last)
                    self.assertEqual(len(ground.sayings()), 60)
                    self.check_years(ground)
                    counts.append(len(fewest_wrong(ground)[0]))
        self.assertGreater(max(counts), 9)
        self.assertGreater(min(counts), 0)

    def test_sayings_of_years_in_one_row_of_all(self):
        ground = with_years(long_row_ground(False), 0, 53, -9999, 9999)
        self.check_years(ground)
        self.assertGreater(len(fewest_wrong(ground)[0]), 9)

    def test_sixty_sayings_some_of_years(self):
        for seed in range(2):
            ground = with_years(greatest_ground(seed, 30), seed, 30)
            self.assertEqual(len(ground.sayings()), 60)
            self.check_years(ground)

    def test_torn_by_sayings(self):
        counts = set()
        for seed in range(4):
            ground = greatest_ground(seed, 57, 3)
            count = fewest_of_a_ring(ground)
            counts.add(count)
            self.check_torn(ground, count)
        self.assertTrue(max(counts) > 3)

    def test_torn_everywhere(self):
        for seed in range(2):
            ground = greatest_free_ground(seed)
            self.assertGreater(len(ground.ties()), 4000)
            self.check_torn(ground, fewest_of_a_ring(ground))

    def test_one_row_of_all(self):
        ground, names = long_row_ground(False), greatest_names()
        self.check_untorn(ground)
        row = [name + "." + letter for name in names for letter in ALPHABET]
        self.assertEqual(order(ground), row[::-1])
        self.check_chain(ground, chain(ground, row[0], row[-1]), row[0], row[-1], 207)
        self.assertIsNone(chain(ground, row[-1], row[0]))
        self.assertEqual([standing(ground, row[0], row[-1]), standing(ground, row[-1], row[0])], ["later", "earlier"])
        self.assertEqual(direct_pairs(ground), sorted(zip(row, row[1:])))
        self.assertEqual(levels(ground), dict(zip(row[::-1], range(208))))
        self.assertEqual(fewest_rows(ground), [row])
        self.assertEqual(len(widest(ground)), 1)

    def test_two_cuts_of_one_column_one_on_the_other(self):
        cuts = [("n", "\n".join(ALPHABET)), ("s", "\n".join(ALPHABET[::-1]))]
        row = ["n." + letter for letter in ALPHABET] + ["s." + letter for letter in ALPHABET[::-1]]
        ground = Ground(cuts, [("later", "n.z", "s.z")])
        self.check_untorn(ground)
        self.assertEqual(levels(ground), dict(zip(row[::-1], range(52))))
        self.assertEqual(fewest_rows(ground), [row])
        ground = Ground(cuts, [("later", "n.a", "s.a")])
        self.check_untorn(ground)
        self.assertEqual(len(fewest_rows(ground)), 2)

    def test_one_ring_of_all(self):
        self.check_torn(long_row_ground(True), 208)

    def test_sixty_same_sayings(self):
        layers = [name + "." + letter for letter in ALPHABET for name in greatest_names()]
        cuts = [(name, ALPHABET) for name in greatest_names()]
        for said in (list(zip(layers, layers[1:]))[:60], list(zip(layers, layers[1:]))[59::-1]):
            ground = Ground(cuts, [("same", one, other) for one, other in said])
            self.assertEqual(deposits(ground)[0], sorted(layers[:61]))
            self.check_untorn(ground)
            self.assertEqual(len(widest(ground)), 208 - 60)


if __name__ == "__main__":
    unittest.main()
