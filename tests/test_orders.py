"""Point 10: the order, and whether a list is one."""

import itertools
import unittest

from digbook.deposits import deposits
from digbook.ground import Ground
from digbook.orders import is_order, order
from drawings import flat, free_ground, settled_ground
from readings import all_orders, keeps_all_links, least_in_turn, plain_groups, untorn

NORTH = ("north", "..a\nbba\nccc")
SOUTH = ("south", "a\nb")


class TheOrder(unittest.TestCase):
    def check(self, ground, letters):
        self.assertEqual(order(ground), ["n." + letter for letter in letters])
        self.assertIs(is_order(ground, order(ground)), True)

    def test_one_deposit(self):
        self.check(flat("q"), "q")
        self.assertEqual(order(Ground([("n", "ab")], [("same", "n.a", "n.b")])), ["n.a"])

    def test_without_links_they_are_sorted(self):
        self.check(flat("dbca"), "abcd")
        self.assertEqual(order(Ground([("b", "a"), ("a", "z"), ("ab", "c")], [])), ["a.z", "ab.c", "b.a"])

    def test_a_cut_from_the_ground_up(self):
        self.check(Ground([("n", "a\nb\nc")], []), "cba")
        self.check(Ground([("n", "c\nb\na")], []), "abc")

    def test_the_least_that_can_stand_there(self):
        self.check(flat("abcz", "az"), "bcza")
        self.check(flat("abc", "ab"), "bac")
        self.check(flat("abcde", "ac", "bd"), "cadbe")
        self.check(flat("abcde", "ae"), "bcdea")
        self.check(flat("abcdef", "af", "fe", "bc"), "cbdefa")

    def test_one_that_waits_for_several(self):
        self.check(flat("abcd", "ac", "ad", "ab"), "bcda")
        self.check(flat("abcde", "ad", "ac", "bd"), "cdabe")

    def test_several_links_of_the_same_two(self):
        self.check(flat("abc", "ab", "ab", "ab", "cb"), "bac")

    def test_one_that_comes_free_goes_ahead_of_greater_ones_that_waited(self):
        self.check(flat("abcdef", "ba", "cb", "dc"), "abcdef")
        self.check(flat("abcdef", "ed", "cd", "af"), "bdcefa")

    def test_two_cuts(self):
        ground = Ground([SOUTH, NORTH], [("same", "north.c", "south.a")])
        self.assertEqual(order(ground), ["south.b", "north.c", "north.a", "north.b"])

    def test_deposits_by_what_they_are_called(self):
        ground = Ground([("z", "a\nb"), ("m", "a\nb"), ("b", "q")], [("same", "z.a", "b.q"), ("same", "m.a", "z.b")])
        self.assertEqual(order(ground), ["m.b", "m.a", "b.q"])

    def test_sayings_of_years_change_nothing(self):
        ground = Ground([("n", "ab")], [("since", "n.a", 100), ("by", "n.b", 5), ("since", "n.b", 3)])
        self.check(ground, "ab")

    def test_the_least_of_all_orders(self):
        for ground in untorn(free_ground(seed) for seed in range(300)):
            if len(plain_groups(ground)) <= 6:
                self.assertEqual(order(ground), min(all_orders(ground)))

    def test_as_read_plainly(self):
        for seed in range(150):
            for ground in (settled_ground(seed), settled_ground(seed, sayings=0), settled_ground(seed, sayings=30)):
                told = order(ground)
                self.assertEqual(told, least_in_turn(ground))
                self.assertEqual(sorted(told), [group[0] for group in deposits(ground)])
                self.assertTrue(keeps_all_links(ground, told))
                self.assertIs(is_order(ground, told), True)

    def test_kinds(self):
        told = order(Ground([NORTH], []))
        self.assertEqual((type(told), type(told[0])), (list, str))


class IsOrder(unittest.TestCase):
    def setUp(self):
        self.ground = Ground([NORTH, SOUTH], [("same", "north.c", "south.a")])
        self.right = ["south.b", "north.c", "north.b", "north.a"]

    def check(self, some, asked):
        before = list(some)
        self.assertIs(is_order(self.ground, some), asked, some)
        self.assertEqual(some, before)

    def test_orders_that_are_not_the_told_one(self):
        self.check(self.right, True)
        self.check(["south.b", "north.c", "north.a", "north.b"], True)

    def test_two_exchanged(self):
        for one, other in itertools.combinations(range(4), 2):
            some = list(self.right)
            some[one], some[other] = some[other], some[one]
            self.check(some, (one, other) == (2, 3))

    def test_the_other_way_about(self):
        self.check(self.right[::-1], False)

    def test_one_left_out(self):
        for place in range(4):
            self.check(self.right[:place] + self.right[place + 1:], False)

    def test_several_left_out(self):
        for count in range(4):
            for some in itertools.combinations(self.right, count):
                self.check(list(some), False)

    def test_one_twice(self):
        for name in self.right:
            for place in range(5):
                self.check(self.right[:place] + [name] + self.right[place:], False)

    def test_one_twice_in_the_place_of_another_one(self):
        for one, other in itertools.permutations(range(4), 2):
            some = list(self.right)
            some[one] = some[other]
            self.check(some, False)

    def test_all_twice(self):
        self.check(self.right * 2, False)
        self.check([name for name in self.right for _ in range(2)], False)

    def test_a_name_that_is_none(self):
        for name in ("north.d", "west.a", "north", "c", "", " ", "north.c ", "North.c", "north.c\n", "~", "#0"):
            for place in range(5):
                self.check(self.right[:place] + [name] + self.right[place:], False)
            for place in range(4):
                self.check(self.right[:place] + [name] + self.right[place + 1:], False)
            self.check([name], False)

    def test_a_layer_that_is_not_what_its_deposit_is_called(self):
        self.check(["south.b", "south.a", "north.b", "north.a"], False)
        for place in range(5):
            self.check(self.right[:place] + ["south.a"] + self.right[place:], False)

    def test_nothing(self):
        self.check([], False)

    def test_one_deposit(self):
        self.ground = Ground([("n", "ab")], [("same", "n.a", "n.b")])
        for some, asked in ((["n.a"], True), (["n.b"], False), (["n.a", "n.b"], False), (["n.a", "n.a"], False),
                            ([], False), (["n"], False)):
            self.check(some, asked)

    def test_without_links_every_order_of_them_is_one(self):
        self.ground = flat("abcd")
        for some in itertools.permutations(["n.a", "n.b", "n.c", "n.d"]):
            self.check(list(some), True)

    def test_a_link_of_a_saying_alone(self):
        self.ground = flat("abc", "ac")
        self.check(["n.c", "n.a", "n.b"], True)
        self.check(["n.b", "n.c", "n.a"], True)
        self.check(["n.a", "n.b", "n.c"], False)
        self.check(["n.b", "n.a", "n.c"], False)

    def test_each_of_many_links_counts(self):
        for ties in ("ab", "ba", "cd", "dc", "ad", "da"):
            self.ground = flat("abcd", ties)
            for some in itertools.permutations("abcd"):
                self.check(["n." + letter for letter in some], some.index(ties[1]) < some.index(ties[0]))

    def test_all_lists_of_the_deposits_of_drawn_grounds(self):
        for self.ground in untorn(free_ground(seed) for seed in range(200)):
            names = [group[0] for group in plain_groups(self.ground)]
            if len(names) <= 5:
                right = all_orders(self.ground)
                for some in itertools.permutations(names):
                    self.check(list(some), list(some) in right)


if __name__ == "__main__":
    unittest.main()
