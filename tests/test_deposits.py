"""Point 8: deposits, what they are called, links."""

import itertools
import unittest

from digbook.deposits import deposit_of, deposits, links
from digbook.ground import Ground
from drawings import free_ground, settled_ground
from readings import plain_groups, plain_links, plain_names

NORTH = ("north", "..a\nbba\nccc")
SOUTH = ("south", "a\nb")
SINGLE = [(name, "a") for name in ("e", "d", "c", "b", "a")]


class DepositCase(unittest.TestCase):
    def check_deposits(self, ground, asked):
        self.assertEqual(deposits(ground), asked)
        for group in asked:
            for layer in group:
                self.assertEqual(deposit_of(ground, layer), group[0], layer)


class WithoutSameSayings(DepositCase):
    def test_each_layer_by_itself(self):
        ground = Ground([SOUTH, NORTH], [])
        self.check_deposits(ground, [["north.a"], ["north.b"], ["north.c"], ["south.a"], ["south.b"]])

    def test_one_layer_in_all(self):
        self.check_deposits(Ground([("n", "q")], []), [["n.q"]])

    def test_links_are_the_ties(self):
        ground = Ground([SOUTH, NORTH], [("later", "south.b", "north.a")])
        self.assertEqual(links(ground), [("north.a", "north.c", "north"), ("north.b", "north.c", "north"),
                                         ("south.a", "south.b", "south"), ("south.b", "north.a", "#0")])

    def test_no_links(self):
        self.assertEqual(links(Ground([("n", "abc")], [("since", "n.a", 3)])), [])

    def test_other_sayings_join_nothing(self):
        sayings = [("later", "north.a", "south.a"), ("later", "south.a", "north.a"), ("since", "north.a", 7),
                   ("by", "south.a", 7), ("since", "south.a", 7)]
        self.check_deposits(Ground([NORTH, SOUTH], sayings),
                            [["north.a"], ["north.b"], ["north.c"], ["south.a"], ["south.b"]])

    def test_one_letter_in_two_cuts_is_two_deposits(self):
        self.check_deposits(Ground([("n", "a"), ("s", "a")], []), [["n.a"], ["s.a"]])


class SameSayings(DepositCase):
    def test_one(self):
        for saying in (("same", "north.c", "south.b"), ("same", "south.b", "north.c")):
            self.check_deposits(Ground([NORTH, SOUTH], [saying]),
                                [["north.a"], ["north.b"], ["north.c", "south.b"], ["south.a"]])

    def test_within_one_cut(self):
        self.check_deposits(Ground([NORTH], [("same", "north.c", "north.a")]), [["north.a", "north.c"], ["north.b"]])

    def test_the_same_one_twice(self):
        for again in (("same", "north.c", "south.b"), ("same", "south.b", "north.c")):
            sayings = [("same", "north.c", "south.b"), ("since", "north.a", 4), again]
            self.check_deposits(Ground([NORTH, SOUTH], sayings),
                                [["north.a"], ["north.b"], ["north.c", "south.b"], ["south.a"]])

    def test_several_that_lead_on_in_any_order(self):
        steps = [("a.a", "b.a"), ("b.a", "c.a"), ("c.a", "d.a"), ("d.a", "e.a")]
        for some in itertools.permutations(steps):
            for turns in itertools.product((1, -1), repeat=4):
                sayings = [("same", *step[::turn]) for step, turn in zip(some, turns)]
                self.check_deposits(Ground(SINGLE, sayings), [["a.a", "b.a", "c.a", "d.a", "e.a"]])

    def test_several_that_lead_on_through_greater_layers(self):
        steps = [("a.a", "e.a"), ("e.a", "b.a"), ("d.a", "c.a"), ("d.a", "b.a")]
        for some in itertools.permutations(steps):
            self.check_deposits(Ground(SINGLE, [("same", *step) for step in some]),
                                [["a.a", "b.a", "c.a", "d.a", "e.a"]])

    def test_one_layer_with_many(self):
        for middle in "abcde":
            sayings = [("same", middle + ".a", other + ".a") for other in "edcba" if other != middle]
            self.check_deposits(Ground(SINGLE, sayings), [["a.a", "b.a", "c.a", "d.a", "e.a"]])

    def test_two_deposits_stay_two(self):
        for sayings in itertools.permutations([("same", "a.a", "d.a"), ("same", "e.a", "b.a")]):
            self.check_deposits(Ground(SINGLE, list(sayings)), [["a.a", "d.a"], ["b.a", "e.a"], ["c.a"]])

    def test_other_sayings_between(self):
        sayings = [("same", "a.a", "c.a"), ("later", "b.a", "a.a"), ("by", "e.a", 1), ("same", "d.a", "e.a"),
                   ("since", "a.a", 5), ("same", "e.a", "c.a")]
        self.check_deposits(Ground(SINGLE, sayings), [["a.a", "c.a", "d.a", "e.a"], ["b.a"]])

    def test_within_cuts_and_across_them(self):
        cuts = [("w", "a\nb\nc"), ("n", "a\nb\nc"), ("s", "abc")]
        sayings = [("same", "w.c", "s.b"), ("same", "n.b", "n.c"), ("same", "s.b", "n.c"), ("same", "w.a", "s.a")]
        self.check_deposits(Ground(cuts, sayings),
                            [["n.a"], ["n.b", "n.c", "s.b", "w.c"], ["s.a", "w.a"], ["s.c"], ["w.b"]])

    def test_all_in_one(self):
        layers = ["n." + letter for letter in "abcdefghijklmnopqrstuvwxyz"]
        sayings = [("same", one, other) for one, other in zip(layers, layers[1:])]
        for said in (sayings, sayings[::-1], sayings[::2] + sayings[1::2]):
            self.check_deposits(Ground([("n", "zyxwvutsrqponmlkjihgfedcba")], said), [layers])


class CalledByTheLeast(DepositCase):
    def test_the_least_as_a_text(self):
        ground = Ground([("ab", "zy"), ("b", "a"), ("a", "z")], [("same", "b.a", "ab.y"), ("same", "ab.y", "a.z")])
        self.check_deposits(ground, [["a.z", "ab.y", "b.a"], ["ab.z"]])

    def test_the_first_cut_is_not_the_least(self):
        ground = Ground([("z", "a"), ("m", "a"), ("b", "a")], [("same", "z.a", "m.a"), ("same", "m.a", "b.a")])
        self.check_deposits(ground, [["b.a", "m.a", "z.a"]])

    def test_by_their_least_ones(self):
        ground = Ground(SINGLE, [("same", "e.a", "a.a"), ("same", "d.a", "c.a")])
        self.check_deposits(ground, [["a.a", "e.a"], ["b.a"], ["c.a", "d.a"]])


class Links(unittest.TestCase):
    def test_of_what_the_deposits_are_called(self):
        ground = Ground([NORTH, SOUTH], [("same", "south.b", "north.c"), ("later", "south.b", "north.b")])
        self.assertEqual(links(ground), [("north.a", "north.c", "north"), ("north.b", "north.c", "north"),
                                         ("north.c", "north.b", "#1"), ("south.a", "north.c", "south")])

    def test_each_once(self):
        ground = Ground([("n", "ab\ncd")], [("same", "n.b", "n.a"), ("same", "n.c", "n.d")])
        self.assertEqual(ground.ties(), [("n.a", "n.c", "n"), ("n.b", "n.d", "n")])
        self.assertEqual(links(ground), [("n.a", "n.c", "n")])

    def test_sorted_by_what_they_are_called(self):
        ground = Ground([("n", "bc\ncd"), ("a", "z")], [("same", "n.c", "a.z")])
        self.assertEqual(ground.ties(), [("n.b", "n.c", "n"), ("n.c", "n.d", "n")])
        self.assertEqual(links(ground), [("a.z", "n.d", "n"), ("n.b", "a.z", "n")])

    def test_of_a_deposit_to_itself(self):
        for sayings in ([("same", "south.a", "south.b")], [("same", "south.b", "south.a")]):
            self.assertEqual(links(Ground([SOUTH], sayings)), [("south.a", "south.a", "south")])
        ground = Ground([("n", "a"), ("s", "a")], [("later", "s.a", "n.a"), ("same", "n.a", "s.a")])
        self.assertEqual(links(ground), [("n.a", "n.a", "#0")])

    def test_of_the_same_two_by_several_sources(self):
        cuts = [("n", "a\nb"), ("s", "c\nd")]
        sayings = [("same", "n.a", "s.c"), ("later", "s.c", "n.b"), ("same", "s.d", "n.b"), ("later", "n.a", "s.d")]
        self.assertEqual(links(Ground(cuts, sayings)), [("n.a", "n.b", "#1"), ("n.a", "n.b", "#3"),
                                                        ("n.a", "n.b", "n"), ("n.a", "n.b", "s")])

    def test_one_saying_of_two_numbers(self):
        ground = Ground([("n", "ab")], [("later", "n.a", "n.b")] * 12)
        self.assertEqual(links(ground), sorted([("n.a", "n.b", "#" + str(number)) for number in range(12)]))

    def test_both_ways(self):
        ground = Ground([("n", "a\nb"), ("s", "b\na")], [("same", "n.a", "s.a"), ("same", "n.b", "s.b")])
        self.assertEqual(links(ground), [("n.a", "n.b", "n"), ("n.b", "n.a", "s")])


class Drawn(DepositCase):
    def test_as_read_plainly(self):
        for seed in range(300):
            for ground in (free_ground(seed), settled_ground(seed), settled_ground(seed, sayings=25)):
                self.check_deposits(ground, plain_groups(ground))
                self.assertEqual(links(ground), plain_links(ground))

    def test_each_layer_in_just_one(self):
        for seed in range(100):
            ground = free_ground(seed)
            told = [layer for group in deposits(ground) for layer in group]
            self.assertEqual(sorted(told), ground.layers())
            self.assertEqual({layer: deposit_of(ground, layer) for layer in told}, plain_names(ground))

    def test_kinds(self):
        ground = Ground([SOUTH], [])
        self.assertEqual([type(told) for told in (deposits(ground), deposits(ground)[0], deposits(ground)[0][0])],
                         [list, list, str])
        self.assertEqual([type(told) for told in (links(ground), links(ground)[0])], [list, tuple])
        self.assertIs(type(deposit_of(ground, "south.b")), str)


if __name__ == "__main__":
    unittest.main()
