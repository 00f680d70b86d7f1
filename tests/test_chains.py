"""Point 11: chains, and how two layers stand; of 3 what speaks of them: (c)."""

import itertools
import unittest

from digbook.chains import chain, standing
from digbook.ground import Ground
from drawings import free_ground, settled_ground
from readings import ReadingCase, fewest_links, fewest_of_a_ring, plain_names

OTHER_WAY = {"one": "one", "later": "earlier", "earlier": "later", "open": "open"}
ROW = "abcdefghijklmnopqrstuvwxyz"


class ChainCase(ReadingCase):
    def check_stand(self, ground, one, other, asked, count=None):
        """How one stands to the other, both ways about, and the chains of just so many links."""
        self.assertEqual(standing(ground, one, other), asked, (one, other))
        self.assertEqual(standing(ground, other, one), OTHER_WAY[asked], (other, one))
        for first, second, way in ((one, other, asked), (other, one, OTHER_WAY[asked])):
            told = chain(ground, first, second)
            if way == "later":
                self.check_chain(ground, told, first, second, count)
            else:
                self.assertIsNone(told)


class Chains(ChainCase):
    def test_one_link_of_a_cut(self):
        ground = Ground([("n", "a\nb")], [])
        self.assertEqual(chain(ground, "n.a", "n.b"), [("n.a", "n.b", "n")])
        self.check_stand(ground, "n.a", "n.b", "later", 1)

    def test_one_link_of_a_saying(self):
        ground = Ground([("n", "ab")], [("since", "n.a", 1), ("later", "n.b", "n.a")])
        self.assertEqual(chain(ground, "n.b", "n.a"), [("n.b", "n.a", "#1")])
        self.check_stand(ground, "n.b", "n.a", "later", 1)

    def test_several_links(self):
        ground = Ground([("n", "\n".join(ROW))], [])
        for one, other in ((0, 2), (0, 25), (7, 11), (24, 25)):
            self.check_stand(ground, "n." + ROW[one], "n." + ROW[other], "later", other - one)
        self.assertEqual(chain(ground, "n.b", "n.d"), [("n.b", "n.c", "n"), ("n.c", "n.d", "n")])

    def test_across_cuts(self):
        ground = Ground([("s", "a\nb"), ("n", "a\nb")], [("later", "s.b", "n.a")])
        self.assertEqual(chain(ground, "s.a", "n.b"),
                         [("s.a", "s.b", "s"), ("s.b", "n.a", "#0"), ("n.a", "n.b", "n")])
        self.check_stand(ground, "s.a", "n.b", "later", 3)

    def test_across_cuts_through_a_deposit(self):
        ground = Ground([("s", "a\nb"), ("n", "a\nb")], [("same", "s.b", "n.a")])
        self.assertEqual(chain(ground, "s.a", "n.b"), [("s.a", "n.a", "s"), ("n.a", "n.b", "n")])
        self.check_stand(ground, "s.a", "n.b", "later", 2)

    def test_by_one_of_several_sources(self):
        ground = Ground([("n", "a\nb")], [("later", "n.a", "n.b")] * 3)
        self.check_stand(ground, "n.a", "n.b", "later", 1)

    def test_a_short_cut_by_a_saying(self):
        for first, last in itertools.combinations(range(6), 2):
            ground = Ground([("n", "\n".join("abcdef"))], [("later", "n." + "abcdef"[first], "n." + "abcdef"[last])])
            self.check_stand(ground, "n.a", "n.f", "later", 5 - (last - first) + 1)

    def test_the_shortest_of_several_ways_whichever_comes_first(self):
        for first, middle, second, last in itertools.permutations("abcd"):
            sayings = [("later", "n." + one, "n." + other)
                       for one, other in (first + middle, middle + second, second + last, middle + last)]
            for said in itertools.permutations(sayings):
                ground = Ground([("n", "abcd")], list(said))
                self.check_stand(ground, "n." + first, "n." + last, "later", 2)

    def test_ways_that_part_and_meet_again(self):
        pairs = ("ab", "bc", "cd", "dz", "ae", "ef", "fz", "ag", "gh", "hi", "iz")
        for said in (pairs, pairs[::-1]):
            ground = Ground([("n", "abcdefghiz")], [("later", "n." + one, "n." + other) for one, other in said])
            self.check_stand(ground, "n.a", "n.z", "later", 3)

    def test_layers_that_are_not_what_their_deposit_is_called(self):
        cuts = [("n", "a\nb\nc"), ("s", "x\ny\nz"), ("w", "pq")]
        ground = Ground(cuts, [("same", "s.x", "n.a"), ("same", "w.p", "n.a"), ("same", "w.q", "n.c")])
        for one in ("n.a", "s.x", "w.p"):
            for other in ("n.c", "w.q"):
                self.check_stand(ground, one, other, "later", 2)
                self.assertEqual(chain(ground, one, other), [("n.a", "n.b", "n"), ("n.b", "n.c", "n")])
            self.check_stand(ground, one, "s.z", "later", 2)

    def test_none_where_none_leads_there(self):
        ground = Ground([("n", "a\nb"), ("s", "a\nb")], [])
        for one in ("n.a", "n.b"):
            for other in ("s.a", "s.b"):
                self.check_stand(ground, one, other, "open")

    def test_side_by_side_is_open(self):
        self.check_stand(Ground([("n", "ab")], []), "n.a", "n.b", "open")
        self.check_stand(Ground([("n", "ab\ncc")], []), "n.a", "n.b", "open")
        self.check_stand(Ground([("n", "cc\nab")], []), "n.a", "n.b", "open")

    def test_with_a_later_and_an_earlier_one_together_still_open(self):
        ground = Ground([("n", "abcd")], [("later", "n.a", "n.b"), ("later", "n.a", "n.c"),
                                          ("later", "n.b", "n.d"), ("later", "n.c", "n.d")])
        self.check_stand(ground, "n.b", "n.c", "open")
        self.check_stand(ground, "n.a", "n.d", "later", 2)

    def test_years_tell_nothing_of_it(self):
        ground = Ground([("n", "ab")], [("since", "n.a", 100), ("by", "n.b", 5)])
        self.check_stand(ground, "n.a", "n.b", "open")


class OneDeposit(ChainCase):
    def test_one_and_the_same_layer(self):
        ground = Ground([("n", "a\nb"), ("s", "a")], [("same", "s.a", "n.b")])
        for layer in ground.layers():
            self.check_stand(ground, layer, layer, "one")

    def test_layers_said_to_be_one(self):
        ground = Ground([("n", "a\nb"), ("s", "a\nb")], [("same", "s.a", "n.b")])
        self.check_stand(ground, "s.a", "n.b", "one")
        self.check_stand(ground, "n.a", "s.b", "later", 2)

    def test_layers_that_are_one_through_others(self):
        cuts = [("n", "a"), ("s", "a"), ("w", "a"), ("e", "a")]
        ground = Ground(cuts, [("same", "w.a", "e.a"), ("same", "n.a", "s.a"), ("same", "s.a", "e.a")])
        for one in ground.layers():
            for other in ground.layers():
                self.check_stand(ground, one, other, "one")

    def test_without_any_link(self):
        self.check_stand(Ground([("n", "a")], []), "n.a", "n.a", "one")
        self.check_stand(Ground([("n", "ab")], [("same", "n.a", "n.b")]), "n.a", "n.b", "one")


class Drawn(ChainCase):
    def check_all(self, ground):
        names, counts = plain_names(ground), fewest_links(ground)
        for one, other in itertools.combinations_with_replacement(ground.layers(), 2):
            there = counts.get((names[one], names[other]))
            back = counts.get((names[other], names[one]))
            if names[one] == names[other]:
                self.check_stand(ground, one, other, "one")
            elif there is not None:
                self.check_stand(ground, one, other, "later", there)
            elif back is not None:
                self.check_stand(ground, other, one, "later", back)
            else:
                self.check_stand(ground, one, other, "open")

    def test_free_grounds(self):
        for seed in range(200):
            ground = free_ground(seed)
            if fewest_of_a_ring(ground) is None:
                self.check_all(ground)

    def test_settled_grounds(self):
        for seed in range(25):
            self.check_all(settled_ground(seed))
            self.check_all(settled_ground(seed, sayings=0))

    def test_kinds(self):
        ground = Ground([("n", "a\nb")], [])
        told = chain(ground, "n.a", "n.b")
        self.assertEqual((type(told), type(told[0])), (list, tuple))
        self.assertIs(type(standing(ground, "n.a", "n.b")), str)


if __name__ == "__main__":
    unittest.main()
