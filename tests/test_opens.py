"""Point 12: two orders of layers that stand open; of 3 what speaks of them: (c)."""

import itertools
import unittest

from digbook.chains import standing
from digbook.ground import Ground
from digbook.opens import two_orders
from digbook.orders import is_order, order
from drawings import broad_ground, flat, free_ground, settled_ground
from readings import ReadingCase, all_orders, fewest_links, plain_groups, plain_names, untorn


class OpenCase(ReadingCase):
    def check_one_way(self, ground, one, other):
        told, names = two_orders(ground, one, other), plain_names(ground)
        self.assertIsInstance(told, tuple)
        self.assertEqual(len(told), 2)
        for some in told:
            self.check_order(ground, some)
            self.assertIs(is_order(ground, some), True)
        self.assertLess(told[0].index(names[one]), told[0].index(names[other]), told)
        self.assertGreater(told[1].index(names[one]), told[1].index(names[other]), told)

    def check_two(self, ground, one, other):
        """Two orders, asked both ways about."""
        self.check_one_way(ground, one, other)
        self.check_one_way(ground, other, one)

    def check_none(self, ground, one, other):
        self.assertIsNone(two_orders(ground, one, other))
        self.assertIsNone(two_orders(ground, other, one))

    def check_all(self, ground):
        """Each two layers of the ground; how many of them stand open."""
        names, later, count = plain_names(ground), fewest_links(ground), 0
        for one, other in itertools.combinations_with_replacement(ground.layers(), 2):
            first, second = names[one], names[other]
            if first == second or (first, second) in later or (second, first) in later:
                self.check_none(ground, one, other)
            else:
                self.check_two(ground, one, other)
                count += 1
        return count


class Open(OpenCase):
    def test_two_without_links(self):
        ground = flat("ab")
        self.assertEqual(two_orders(ground, "n.a", "n.b"), (["n.a", "n.b"], ["n.b", "n.a"]))
        self.assertEqual(two_orders(ground, "n.b", "n.a"), (["n.b", "n.a"], ["n.a", "n.b"]))

    def test_the_only_two_orders(self):
        for ground in (flat("abcd", "ab", "ac", "bd", "cd"), Ground([("n", "aa\nbc\ndd")], [])):
            self.assertEqual(two_orders(ground, "n.b", "n.c"),
                             (["n.d", "n.b", "n.c", "n.a"], ["n.d", "n.c", "n.b", "n.a"]))
            self.assertEqual(two_orders(ground, "n.c", "n.b"),
                             (["n.d", "n.c", "n.b", "n.a"], ["n.d", "n.b", "n.c", "n.a"]))

    def test_the_least_order_has_the_one_ahead_or_behind(self):
        ground = flat("abcd", "ad")
        self.assertEqual(order(ground), ["n.b", "n.c", "n.d", "n.a"])
        for one, other in (("n.b", "n.a"), ("n.c", "n.a"), ("n.b", "n.c"), ("n.b", "n.d"), ("n.c", "n.d")):
            self.assertLess(order(ground).index(one), order(ground).index(other))
            self.check_two(ground, one, other)

    def test_others_between_that_must_come_along(self):
        ground = flat("abcdexyz", "ab", "bc", "cd", "de", "xy", "yz")
        for one, other in itertools.product("abcde", "xyz"):
            self.check_two(ground, "n." + one, "n." + other)
        told = two_orders(ground, "n.a", "n.z")
        self.assertEqual(told[0], ["n.e", "n.d", "n.c", "n.b", "n.a", "n.z", "n.y", "n.x"])
        self.assertEqual(two_orders(ground, "n.e", "n.x")[1],
                         ["n.z", "n.y", "n.x", "n.e", "n.d", "n.c", "n.b", "n.a"])

    def test_two_cuts_one_wholly_ahead_of_the_other(self):
        ground = Ground([("n", "a\nb\nc"), ("s", "a\nb\nc")], [])
        north, south = ["n.c", "n.b", "n.a"], ["s.c", "s.b", "s.a"]
        self.assertEqual(two_orders(ground, "n.a", "s.c")[0], north + south)
        self.assertEqual(two_orders(ground, "n.c", "s.a")[1], south + north)
        self.assertEqual(self.check_all(ground), 9)

    def test_layers_that_are_not_what_their_deposit_is_called(self):
        cuts = [("n", "a\nb"), ("s", "x\ny"), ("w", "pq")]
        ground = Ground(cuts, [("same", "w.p", "n.b"), ("same", "w.q", "s.x")])
        for one in ("n.b", "w.p"):
            for other in ("s.x", "w.q"):
                self.check_two(ground, one, other)
        self.assertEqual(self.check_all(ground), 9)

    def test_links_of_several_sources(self):
        self.assertEqual(self.check_all(flat("abc", "ab", "ab", "ab")), 2)

    def test_sayings_of_years_settle_nothing(self):
        ground = Ground([("n", "ab")], [("since", "n.a", 100), ("by", "n.b", 5)])
        self.check_two(ground, "n.a", "n.b")


class NotOpen(OpenCase):
    def test_later_and_earlier(self):
        self.check_none(flat("ab", "ab"), "n.a", "n.b")
        self.check_none(Ground([("n", "a\nb")], []), "n.a", "n.b")

    def test_by_a_chain(self):
        ground = Ground([("n", "a\nb\nc"), ("s", "x\ny")], [("same", "n.c", "s.x")])
        self.check_none(ground, "n.a", "n.c")
        self.check_none(ground, "n.a", "s.y")
        self.assertEqual(self.check_all(ground), 0)

    def test_one_deposit(self):
        ground = Ground([("n", "ab"), ("s", "c")], [("same", "n.a", "s.c"), ("same", "s.c", "n.b")])
        self.assertEqual(self.check_all(ground), 0)

    def test_one_and_the_same_layer(self):
        ground = Ground([("n", "abc"), ("s", "c")], [("same", "n.a", "s.c")])
        for layer in ground.layers():
            self.assertIsNone(two_orders(ground, layer, layer))


class Drawn(OpenCase):
    def test_free_grounds(self):
        counts = [self.check_all(ground) for ground in untorn(free_ground(seed) for seed in range(150))]
        self.assertGreater(len([count for count in counts if count > 10]), 10)

    def test_settled_grounds(self):
        for seed in range(12):
            self.check_all(settled_ground(seed))
            self.check_all(broad_ground(seed))

    def test_told_just_where_both_kinds_of_order_are_there(self):
        for ground in untorn(free_ground(seed) for seed in range(120)):
            if len(plain_groups(ground)) <= 6:
                orders, names = all_orders(ground), plain_names(ground)
                for one, other in itertools.permutations(ground.layers(), 2):
                    ahead = {some.index(names[one]) < some.index(names[other]) for some in orders}
                    is_open = len(ahead) == 2
                    self.assertEqual(two_orders(ground, one, other) is not None, is_open)
                    self.assertEqual(standing(ground, one, other) == "open", is_open)
                    for some in two_orders(ground, one, other) or ():
                        self.assertIn(some, orders)


if __name__ == "__main__":
    unittest.main()
