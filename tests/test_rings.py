"""Point 9: rings, and the refusal Torn; of 3 what speaks of them: (b)."""

import itertools
import unittest

from asking import BEHIND, OF_TWO
from digbook.deposits import deposit_of, deposits, links
from digbook.errors import DigError, Torn
from digbook.ground import Ground
from digbook.orders import is_order, order
from digbook.rings import ring
from digbook.years import why_greatest, why_least
from drawings import free_ground, settled_ground
from readings import ReadingCase, fewest_of_a_ring, plain_groups, plain_links, plain_names

ROW = "abcdefghijklmnopqrstuvwxyz"


def later_ring(names, cut="n"):
    """Later-sayings from each name to the next one, and from the last one to the first one."""
    return [("later", f"{cut}.{one}", f"{cut}.{other}") for one, other in zip(names, names[1:] + names[:1])]


def torn_answers(ground):
    """What the functions behind tell or refuse, each asked in several ways."""
    names = [group[0] for group in plain_groups(ground)]
    first, last = ground.layers()[0], ground.layers()[-1]
    asked = [(tell, ground) for tell in BEHIND]
    asked += [(is_order, ground, some) for some in (names, names[::-1], [], ["none"], names * 2)]
    asked += [(tell, ground, layer) for tell in (why_least, why_greatest) for layer in (first, last)]
    asked += [(tell, ground, *pair) for tell in OF_TWO for pair in itertools.product((first, last), repeat=2)]
    return [lambda tell=tell, things=things: tell(*things) for tell, *things in asked]


class RingCase(ReadingCase):
    def check_torn(self, ground, count):
        self.check_ring(ground, ring(ground), count)
        for ask in torn_answers(ground):
            with self.assertRaises(Torn) as taken:
                ask()
            self.check_ring(ground, taken.exception.ring, count)

    def check_untorn(self, ground):
        self.assertIsNone(ring(ground))
        for ask in torn_answers(ground):
            ask()


class NoRing(RingCase):
    def test_without_links(self):
        self.check_untorn(Ground([("n", "a")], []))
        self.check_untorn(Ground([("n", "abc"), ("s", "a")], [("same", "n.a", "s.a")]))

    def test_a_cut_by_itself(self):
        self.check_untorn(Ground([("n", "a\nb\nc")], []))
        self.check_untorn(Ground([("n", "\n".join(ROW))], []))

    def test_a_saying_that_goes_with_the_cut(self):
        self.check_untorn(Ground([("n", "a\nb\nc")], [("later", "n.a", "n.c"), ("later", "n.a", "n.b")]))

    def test_two_ways_to_one_deposit_are_no_ring(self):
        self.check_untorn(Ground([("n", "abcd")], [("later", "n.a", "n.b"), ("later", "n.a", "n.c"),
                                                   ("later", "n.b", "n.d"), ("later", "n.c", "n.d")]))

    def test_two_links_of_the_same_two_are_no_ring(self):
        self.check_untorn(Ground([("n", "a\nb"), ("s", "a\nb")],
                                 [("same", "n.a", "s.a"), ("same", "n.b", "s.b"), ("later", "n.a", "s.b")]))

    def test_cuts_about_each_other_without_same_sayings(self):
        self.check_untorn(Ground([("n", "a\nb"), ("s", "b\na")], []))

    def test_one_link_short_of_a_ring(self):
        for names in ("ab", "abc", "badc", "edcba"):
            sayings = later_ring(names)
            for left_out in range(len(sayings)):
                self.check_untorn(Ground([("n", names)], sayings[:left_out] + sayings[left_out + 1:]))

    def test_years_make_no_ring(self):
        self.check_untorn(Ground([("n", "a\nb")], [("since", "n.b", 9), ("by", "n.a", 3)]))


class RingsOfOneLink(RingCase):
    def test_a_same_saying_of_a_layer_and_the_one_it_lies_on(self):
        for saying in (("same", "n.a", "n.b"), ("same", "n.b", "n.a")):
            ground = Ground([("n", "a\nb\nc")], [saying])
            self.assertEqual(ring(ground), [("n.a", "n.a", "n")])
            self.check_torn(ground, 1)

    def test_a_later_saying_within_a_deposit(self):
        ground = Ground([("n", "ab")], [("same", "n.a", "n.b"), ("later", "n.b", "n.a")])
        self.assertEqual(ring(ground), [("n.a", "n.a", "#1")])
        self.check_torn(ground, 1)

    def test_by_same_sayings_that_lead_on(self):
        ground = Ground([("n", "a\nb"), ("s", "c"), ("w", "d")],
                        [("same", "n.a", "w.d"), ("same", "s.c", "w.d"), ("same", "n.b", "s.c")])
        self.assertEqual(ring(ground), [("n.a", "n.a", "n")])
        self.check_torn(ground, 1)

    def test_in_the_greatest_deposit(self):
        ground = Ground([("n", "a\nb\nc\ny\nz")], [("same", "n.y", "n.z")])
        self.assertEqual(ring(ground), [("n.y", "n.y", "n")])
        self.check_torn(ground, 1)


class RingsOfMoreLinks(RingCase):
    def test_a_cut_by_itself(self):
        self.check_torn(Ground([("n", "ab\nba")], []), 2)
        self.check_torn(Ground([("n", "abc\nbca")], []), 3)
        self.check_torn(Ground([("n", "a\nb\na")], []), 2)
        self.check_torn(Ground([("n", "a\nb\nc\na")], []), 3)

    def test_later_sayings_alone(self):
        for count in (2, 3, 4, 5, 9, 26):
            for names in (ROW[:count], ROW[:count][::-1], ROW[:count:2] + ROW[1:count:2]):
                self.check_torn(Ground([("n", ROW)], later_ring(names)), count)

    def test_later_sayings_alone_in_any_order(self):
        for sayings in itertools.permutations(later_ring("abcd")):
            self.check_torn(Ground([("n", "abcd")], list(sayings)), 4)

    def test_later_sayings_across_cuts(self):
        sayings = [("later", "n.a", "s.a"), ("later", "s.a", "w.a"), ("later", "w.a", "n.a")]
        self.check_torn(Ground([("w", "a"), ("s", "a"), ("n", "a")], sayings), 3)

    def test_a_cut_and_a_later_saying(self):
        for count in (2, 3, 4, 26):
            self.check_torn(Ground([("n", "\n".join(ROW[:count]))], [("later", f"n.{ROW[count - 1]}", "n.a")]), count)

    def test_two_cuts_and_later_sayings(self):
        sayings = [("later", "n.c", "s.a"), ("later", "s.b", "n.a")]
        self.check_torn(Ground([("n", "a\nb\nc"), ("s", "a\nb")], sayings), 5)

    def test_two_cuts_and_same_sayings(self):
        cuts = [("n", "a\nb\nc"), ("s", "x\ny\nz")]
        for sayings in itertools.permutations([("same", "n.a", "s.z"), ("same", "s.x", "n.c")]):
            self.check_torn(Ground(cuts, list(sayings)), 4)
        self.check_torn(Ground(cuts, [("same", "n.a", "s.y"), ("same", "n.b", "s.x")]), 2)
        self.check_torn(Ground(cuts, [("same", "n.a", "s.y"), ("same", "n.c", "s.x")]), 3)

    def test_a_same_saying_closes_a_row_of_later_sayings(self):
        sayings = [("later", "n.a", "n.b"), ("later", "n.b", "n.c"), ("later", "n.c", "s.d")]
        self.check_untorn(Ground([("n", "abc"), ("s", "d")], sayings))
        self.check_torn(Ground([("n", "abc"), ("s", "d")], sayings + [("same", "s.d", "n.a")]), 3)

    def test_with_all_else_right(self):
        cuts = [("n", "a\nb\nc\nd\ne\nf")]
        for upper, lower in itertools.combinations("abcdef", 2):
            self.check_torn(Ground(cuts, [("later", "n." + lower, "n." + upper)]), ord(lower) - ord(upper) + 1)

    def test_by_links_of_several_sources(self):
        sayings = [("later", "n.a", "n.b"), ("later", "n.b", "n.a"), ("later", "n.b", "n.a")]
        self.check_torn(Ground([("n", "a\nb")], sayings), 2)


class TheShortestOfSeveral(RingCase):
    def test_apart_whichever_comes_first(self):
        for short, long in ((2, 3), (2, 6), (3, 4), (3, 7), (5, 6)):
            for first, second in ((short, long), (long, short)):
                names = ROW[:first], ROW[first:first + second]
                sayings = later_ring(names[0]) + later_ring(names[1])
                self.check_torn(Ground([("n", ROW)], sayings), short)
                self.check_torn(Ground([("n", ROW)], sayings[::-1]), short)

    def test_one_link_whichever_comes_first(self):
        for pair, others in (("ab", "cde"), ("de", "abc"), ("ae", "bcd")):
            same = [("same", f"n.{pair[0]}", f"n.{pair[1]}"), ("later", f"n.{pair[0]}", f"n.{pair[1]}")]
            for sayings in (same + later_ring(others), later_ring(others) + same):
                self.check_torn(Ground([("n", "abcde")], sayings), 1)

    def test_with_deposits_in_both(self):
        for names in ("abcdef", "fedcba", "cafebd"):
            sayings = later_ring(names)
            for shorter in range(2, 6):
                back = [("later", f"n.{names[shorter - 1]}", f"n.{names[0]}")]
                self.check_torn(Ground([("n", "abcdef")], sayings + back), shorter)
                self.check_torn(Ground([("n", "abcdef")], back + sayings), shorter)

    def test_far_behind_a_longer_one(self):
        sayings = later_ring("abcd") + [("later", "n.d", "n.e"), ("later", "n.e", "n.f"), ("later", "n.f", "n.e")]
        self.check_torn(Ground([("n", "abcdef")], sayings), 2)

    def test_far_ahead_of_a_longer_one(self):
        sayings = later_ring("cdef") + [("later", "n.a", "n.b"), ("later", "n.b", "n.a"), ("later", "n.b", "n.c")]
        self.check_torn(Ground([("n", "abcdef")], sayings), 2)

    def test_a_cut_and_sayings(self):
        ground = Ground([("n", "a\nb\nc\nd"), ("s", "e\nf\ng")], [("later", "n.d", "n.a"), ("later", "s.g", "s.e")])
        self.check_torn(ground, 3)


class Drawn(RingCase):
    def test_as_read_plainly(self):
        counts = set()
        for seed in range(250):
            for ground in (free_ground(seed), settled_ground(seed, untrue=1), settled_ground(seed, untrue=4)):
                count = fewest_of_a_ring(ground)
                counts.add(count)
                if count is None:
                    self.check_untorn(ground)
                else:
                    self.check_torn(ground, count)
        self.assertTrue(counts >= {None, 1, 2, 3, 4, 5})

    def test_it_can_be_so_or_a_ring_is_told(self):
        for seed in range(250):
            ground = free_ground(seed)
            told = ring(ground)
            if told is None:
                names = order(ground)
                for later, earlier, _ in plain_links(ground):
                    self.assertLess(names.index(earlier), names.index(later))
            else:
                self.check_ring(ground, told, fewest_of_a_ring(ground))
                self.assertRaises(Torn, order, ground)


class WhatTornLeaves(RingCase):
    def setUp(self):
        self.ground = Ground([("n", "a\nb"), ("s", "c\nd")], [("later", "n.b", "n.a"), ("same", "s.d", "n.b")])

    def test_the_stages_ahead_are_told(self):
        self.assertEqual(deposits(self.ground), [["n.a"], ["n.b", "s.d"], ["s.c"]])
        self.assertEqual({layer: deposit_of(self.ground, layer) for layer in self.ground.layers()},
                         plain_names(self.ground))
        self.assertEqual(links(self.ground), plain_links(self.ground))

    def test_layers_far_from_the_ring_are_refused_too(self):
        ground = Ground([("n", "a\nb"), ("s", "c\nd")], [("later", "n.b", "n.a")])
        for tell in OF_TWO:
            self.assertRaises(Torn, tell, ground, "s.c", "s.d")
            self.assertRaises(Torn, tell, ground, "s.d", "s.c")
            self.assertRaises(Torn, tell, ground, "s.d", "s.d")

    def test_layers_of_one_deposit_are_refused_too(self):
        for tell in OF_TWO:
            self.assertRaises(Torn, tell, self.ground, "s.d", "n.b")
        for tell in (why_least, why_greatest):
            self.assertRaises(Torn, tell, self.ground, "s.c")

    def test_each_refusal_has_a_ring_of_its_own(self):
        for ask in torn_answers(self.ground):
            with self.assertRaises(DigError) as first:
                ask()
            first.exception.ring.clear()
            with self.assertRaises(DigError) as second:
                ask()
            self.check_ring(self.ground, second.exception.ring, 2)
            self.assertEqual(first.exception.ring, [])
        self.check_ring(self.ground, ring(self.ground), 2)

    def test_a_list_that_is_refused_stays_as_it_was(self):
        some = ["s.c", "n.a", "n.b"]
        self.assertRaises(Torn, is_order, self.ground, some)
        self.assertEqual(some, ["s.c", "n.a", "n.b"])

    def test_a_refusal_changes_nothing(self):
        whole = Ground([("n", "a\nb")], [])
        for ask in torn_answers(self.ground):
            self.assertRaises(Torn, ask)
            self.assertEqual(order(whole), ["n.b", "n.a"])
        self.assertEqual(links(self.ground), plain_links(self.ground))


if __name__ == "__main__":
    unittest.main()
