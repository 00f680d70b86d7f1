"""Points 6 and 7, and of 3 what speaks of a ground: (a), and the end of (h)."""

import unittest
from unittest.mock import ANY

from digbook.cuts import turned, wider
from digbook.errors import NoGround
from digbook.ground import Ground
from drawings import drawn_cut, is_right_above, met_pairs

NORTH = ("north", "..a\nbba\nccc")
SOUTH = ("south", "a\nb")
CUTS = [NORTH, SOUTH]
EIGHT = [(name, "a\nb") for name in ("hh", "g", "f", "e", "d", "c", "b", "a")]
LATER = ("later", "north.a", "south.b")
ODD = (None, True, False, 0, 7, 1.5, "", "later", b"a", [], {}, {"a"}, (), object(), str)


class GroundCase(unittest.TestCase):
    def refused(self, part, number, cuts, sayings):
        shown = repr((cuts, sayings))
        with self.assertRaises(NoGround, msg=shown) as taken:
            Ground(cuts, sayings)
        self.assertEqual((taken.exception.part, taken.exception.number), (part, number), shown)

    def refused_cut(self, thing):
        """Refused alone, and behind a good one; a good one behind it changes nothing."""
        self.refused("cuts", 0, [thing], [])
        self.refused("cuts", 0, [thing, NORTH], [])
        self.refused("cuts", 1, [NORTH, thing], [])
        self.refused("cuts", 2, [NORTH, SOUTH, thing, thing], [])

    def refused_saying(self, thing):
        self.refused("sayings", 0, CUTS, [thing])
        self.refused("sayings", 0, CUTS, [thing, LATER])
        self.refused("sayings", 1, CUTS, [LATER, thing])
        self.refused("sayings", 2, CUTS, [LATER, LATER, thing, thing])

    def taken_saying(self, thing):
        self.assertEqual(Ground(CUTS, [thing]).sayings(), [thing])
        self.assertEqual(Ground(CUTS, [LATER, thing]).sayings(), [LATER, thing])


class CutsOfAGround(GroundCase):
    def test_one_cut_and_eight(self):
        self.assertEqual(Ground([NORTH], []).cuts(), [NORTH])
        self.assertEqual(Ground(EIGHT, []).cuts(), EIGHT)

    def test_a_ninth(self):
        self.refused("cuts", 8, EIGHT + [("ninth", "a")], [])
        self.refused("cuts", 8, EIGHT + [("ninth", "a"), ("tenth", "a")], [])
        self.refused("cuts", 8, EIGHT + [None], [])

    def test_a_fault_ahead_of_the_ninth(self):
        self.refused("cuts", 3, EIGHT[:3] + [("bad", "A")] + EIGHT[3:], [])

    def test_no_cuts(self):
        self.refused("cuts", None, [], [])

    def test_no_list(self):
        for thing in (None, True, 0, 7, "north", "", (), (NORTH,), {}, {"north": "a"}, {1}, object(), list):
            self.refused("cuts", None, thing, [])

    def test_things_of_other_kinds_and_lengths(self):
        for thing in ODD + (("n",), ("n", "a", "a"), ["n", "a"], "na", {"n": "a"}, (NORTH,), [NORTH]):
            self.refused_cut(thing)

    def test_names_that_are_none(self):
        for name in ("", "abcdefghi", "North", "n1", "n.a", "n ", " n", "n\n", "#0"):
            self.refused_cut((name, "a"))

    def test_names_of_other_kinds(self):
        for name in (None, True, 0, 7, 1.5, b"n", [], ["n"], (), ("n",), {}, {"n"}, object(), str):
            self.refused_cut((name, "a"))

    def test_names_of_one_and_eight_signs(self):
        cuts = [("n", "a"), ("abcdefgh", "a")]
        self.assertEqual(Ground(cuts, []).cuts(), cuts)

    def test_names_used_twice(self):
        self.refused("cuts", 1, [NORTH, NORTH], [])
        self.refused("cuts", 1, [NORTH, ("north", "z")], [])
        self.refused("cuts", 2, [NORTH, SOUTH, ("north", "z")], [])
        self.refused("cuts", 2, [SOUTH, NORTH, ("north", "z"), ("south", "a")], [])

    def test_one_drawing_in_two_cuts(self):
        cuts = [("one", "a"), ("two", "a")]
        self.assertEqual(Ground(cuts, []).cuts(), cuts)

    def test_cuts_that_are_none(self):
        for text in ("", "A", "a\n", "a\n.", ".", "aa\na", "a" * 41, "\n".join(["a"] * 41), "a b", "a/b"):
            self.refused_cut(("n", text))

    def test_cuts_of_other_kinds(self):
        for text in (None, True, 0, 7, 1.5, b"a", [], ["a"], (), ("a",), {}, {"a"}, object(), str):
            self.refused_cut(("n", text))

    def test_cuts_is_told_where_both_are_so(self):
        for sayings in (None, [None], "", [LATER] * 61):
            self.refused("cuts", None, [], sayings)
            self.refused("cuts", None, None, sayings)
            self.refused("cuts", 0, [None], sayings)
            self.refused("cuts", 1, [NORTH, NORTH], sayings)
            self.refused("cuts", 8, EIGHT + [NORTH], sayings)


class SayingsOfAGround(GroundCase):
    def test_each_of_the_four(self):
        for saying in (("later", "north.a", "south.b"), ("same", "north.b", "south.a"),
                       ("since", "north.c", 1200), ("by", "south.a", 1500)):
            self.taken_saying(saying)

    def test_within_one_cut(self):
        for saying in (("later", "north.c", "north.a"), ("same", "north.a", "north.c")):
            self.taken_saying(saying)

    def test_one_saying_twice(self):
        self.assertEqual(Ground(CUTS, [LATER, LATER]).sayings(), [LATER, LATER])

    def test_years_first_last_and_beyond(self):
        for word in ("since", "by"):
            for year in (-9999, -1, 0, 1, 9999):
                self.taken_saying((word, "north.a", year))
            for year in (-10000, 10000, -123456, 10 ** 30):
                self.refused_saying((word, "north.a", year))

    def test_years_of_other_kinds(self):
        for word in ("since", "by"):
            for year in (True, False, None, "1200", 1200.0, "", "north.b", [], [1200], (1200,), {}, object(), int):
                self.refused_saying((word, "north.a", year))

    def test_layers_that_the_ground_has_not(self):
        strange = ("north.d", "west.a", "south.c", "north", "a", "", ".", "north.", ".a", "north.aa", "north..a",
                   "North.a", "north.A", "north a", "north.a ", " north.a", "north.a\n", "north..", "north.a.b")
        for layer in strange:
            for word in ("later", "same"):
                self.refused_saying((word, layer, "north.a"))
                self.refused_saying((word, "north.a", layer))
                self.refused_saying((word, layer, layer))
            for word in ("since", "by"):
                self.refused_saying((word, layer, 1200))

    def test_layers_of_other_kinds(self):
        # ANY is no text, though it is equal to every one.
        for thing in (None, True, 0, 7, b"north.a", [], ["north.a"], (), ("north", "a"), {}, {"a"}, object(), str, ANY):
            for word in ("later", "same"):
                self.refused_saying((word, thing, "north.a"))
                self.refused_saying((word, "north.a", thing))
            for word in ("since", "by"):
                self.refused_saying((word, thing, 1200))

    def test_one_and_other_alike(self):
        for word in ("later", "same"):
            for layer in ("north.a", "south.b"):
                self.refused_saying((word, layer, layer))

    def test_words_that_are_none(self):
        for word in ("", "Later", "later ", "earlier", "until", "s", "l", "b", "sinceby", "latersame"):
            self.refused_saying((word, "north.a", "north.b"))
            self.refused_saying((word, "north.a", 1200))

    def test_words_of_other_kinds(self):
        for word in (None, True, 0, 7, 1.5, b"later", [], ["later"], (), ("later",), {}, {"later"}, object(), str, ANY):
            self.refused_saying((word, "north.a", "north.b"))
            self.refused_saying((word, "north.a", 1200))

    def test_a_year_for_a_layer_and_a_layer_for_a_year(self):
        self.refused_saying(("later", "north.a", 1200))
        self.refused_saying(("same", 1200, "north.a"))
        self.refused_saying(("since", 1200, "north.a"))
        self.refused_saying(("by", "north.a", "north.b"))

    def test_things_of_other_kinds_and_lengths(self):
        for thing in ODD + (("later",), ("later", "north.a"), ("later", "north.a", "north.b", "north.c"),
                            ("since", "north.a"), ("since", "north.a", 1, 2), ["later", "north.a", "north.b"],
                            ["since", "north.a", 1], (LATER,), [LATER], "abc"):
            self.refused_saying(thing)

    def test_no_list(self):
        for thing in (None, True, 0, 7, "later", "", (), (LATER,), {}, {1}, object(), list):
            self.refused("sayings", None, CUTS, thing)

    def test_no_sayings(self):
        self.assertEqual(Ground(CUTS, []).sayings(), [])

    def test_sixty_and_a_sixty_first(self):
        sixty = [("since", "north.a", year) for year in range(60)]
        self.assertEqual(Ground(CUTS, sixty).sayings(), sixty)
        self.refused("sayings", 60, CUTS, sixty + [LATER])
        self.refused("sayings", 60, CUTS, sixty + [LATER, LATER])
        self.refused("sayings", 60, CUTS, sixty + [None])

    def test_a_fault_ahead_of_the_sixty_first(self):
        self.refused("sayings", 59, CUTS, [LATER] * 59 + [None, LATER])
        self.refused("sayings", 0, CUTS, [None] + [LATER] * 60)

    def test_the_first_of_several(self):
        self.refused("sayings", 1, CUTS, [LATER, ("since", "north.a", 10000), None, ("later", "x", "y")])


class WhatAGroundTells(GroundCase):
    def test_cuts_and_sayings_in_their_order(self):
        sayings = [("since", "south.b", 5), ("by", "south.a", 1), ("later", "south.b", "north.a"), ("by", "south.a", 0)]
        ground = Ground([SOUTH, NORTH], sayings)
        self.assertEqual(ground.cuts(), [SOUTH, NORTH])
        self.assertEqual(ground.sayings(), sayings)

    def test_layers_sorted(self):
        self.assertEqual(Ground([SOUTH, NORTH], []).layers(),
                         ["north.a", "north.b", "north.c", "south.a", "south.b"])
        self.assertEqual(Ground([("ab", "z\ny"), ("a", "z"), ("b", "a")], []).layers(), ["a.z", "ab.y", "ab.z", "b.a"])

    def test_each_layer_once(self):
        self.assertEqual(Ground([("n", "aa\naa\naa")], []).layers(), ["n.a"])

    def test_ties_of_cuts(self):
        self.assertEqual(Ground([SOUTH, NORTH], []).ties(),
                         [("north.a", "north.c", "north"), ("north.b", "north.c", "north"),
                          ("south.a", "south.b", "south")])

    def test_no_ties(self):
        self.assertEqual(Ground([("n", "ab")], []).ties(), [])
        self.assertEqual(Ground([("n", "a\na")], []).ties(), [])

    def test_a_tie_once_for_all_its_places(self):
        self.assertEqual(Ground([("n", "aaa\nbbb\nbab")], []).ties(), [("n.a", "n.b", "n"), ("n.b", "n.a", "n")])

    def test_a_tie_of_a_meeting_wherever_it_stands(self):
        for height in (2, 20, 40):
            for place in (0, 1, 38, 39):
                rows = ["a" * 40] * (height - 1) + ["a" * place + "x" + "a" * (39 - place)]
                self.assertEqual(Ground([("n", "\n".join(rows))], []).ties(), [("n.a", "n.x", "n")])

    def test_ties_of_later_sayings_alone(self):
        sayings = [("since", "north.a", 5), ("same", "north.a", "south.a"), ("later", "south.b", "north.a"),
                   ("by", "north.a", 7), ("later", "north.a", "south.b")]
        self.assertEqual(Ground([("north", "a"), ("south", "ab")], sayings).ties(),
                         [("north.a", "south.b", "#4"), ("south.b", "north.a", "#2")])

    def test_one_saying_of_two_numbers_and_a_cut(self):
        self.assertEqual(Ground([SOUTH], [("later", "south.a", "south.b")] * 2).ties(),
                         [("south.a", "south.b", "#0"), ("south.a", "south.b", "#1"), ("south.a", "south.b", "south")])

    def test_sources_of_more_than_ten_sayings(self):
        ground = Ground([("n", "ab")], [("later", "n.a", "n.b")] * 60)
        self.assertEqual(ground.ties(), sorted([("n.a", "n.b", "#" + str(number)) for number in range(60)]))
        self.assertEqual([source for _, _, source in ground.ties()][:4], ["#0", "#1", "#10", "#11"])

    def test_ties_sorted_cuts_and_sayings_together(self):
        ground = Ground([("b", "a\nb"), ("a", "a\nb")], [("later", "b.a", "a.a"), ("later", "a.a", "b.b")])
        self.assertEqual(ground.ties(), [("a.a", "a.b", "a"), ("a.a", "b.b", "#1"), ("b.a", "a.a", "#0"),
                                         ("b.a", "b.b", "b")])

    def test_kinds(self):
        ground = Ground(CUTS, [LATER])
        for told in (ground.cuts(), ground.sayings(), ground.layers(), ground.ties()):
            self.assertIsInstance(told, list)
        for told in ground.cuts() + ground.sayings() + ground.ties():
            self.assertIsInstance(told, tuple)


def drawn_ground(seed, change):
    cuts = [(name, change(drawn_cut(seed * 3 + step, most_signs=4))) for step, name in enumerate(("n", "s", "w"))]
    return Ground(cuts, [])


class TheWhole(unittest.TestCase):
    def test_each_tie_of_a_cut_is_met_in_its_drawing(self):
        for seed in range(100):
            ground = drawn_ground(seed, str)
            texts = dict(ground.cuts())
            for later, earlier, source in ground.ties():
                self.assertEqual((later[:-1], earlier[:-1]), (source + ".", source + "."))
                self.assertNotEqual(later, earlier)
                self.assertTrue(is_right_above(texts[source], later[-1], earlier[-1]), (texts[source], later, earlier))

    def test_each_meeting_is_a_tie(self):
        for seed in range(100):
            ground = drawn_ground(seed, str)
            asked = []
            for name, text in ground.cuts():
                asked += [(name + "." + upper, name + "." + lower, name) for upper, lower in met_pairs(text)]
            self.assertEqual(ground.ties(), sorted(asked))

    def test_turned_and_wider_cuts_tell_the_same_ties(self):
        for seed in range(50):
            plain = drawn_ground(seed, str)
            for change in (turned, lambda text: wider(text, 1), lambda text: wider(text, 2),
                           lambda text: wider(text, 9), lambda text: turned(wider(text, 3))):
                changed = drawn_ground(seed, change)
                self.assertEqual(changed.ties(), plain.ties())
                self.assertEqual(changed.layers(), plain.layers())


def all_told(ground):
    return [ground.cuts(), ground.sayings(), ground.layers(), ground.ties()]


class NothingKeptNothingChanged(unittest.TestCase):
    def test_handed_in_lists_stay_as_they_are(self):
        cuts, sayings = list(CUTS), [LATER]
        all_told(Ground(cuts, sayings))
        self.assertEqual((cuts, sayings), (CUTS, [LATER]))

    def test_handed_in_lists_changed_afterwards(self):
        cuts, sayings = list(CUTS), [LATER]
        ground = Ground(cuts, sayings)
        before = all_told(ground)
        cuts[0] = ("west", "q")
        cuts.append(("east", "z"))
        sayings.clear()
        self.assertEqual(all_told(ground), before)
        self.assertEqual(before[:2], [CUTS, [LATER]])

    def test_told_lists_changed(self):
        ground = Ground(CUTS, [LATER])
        before = all_told(Ground(CUTS, [LATER]))
        for told in all_told(ground):
            told.reverse()
            told.append("more")
            told[0] = None
        self.assertEqual(all_told(ground), before)
        for told in all_told(ground):
            told.clear()
        self.assertEqual(all_told(ground), before)

    def test_told_lists_are_not_changed_by_asking_again(self):
        ground = Ground(CUTS, [LATER])
        first = all_told(ground)
        copies = [list(told) for told in first]
        for told in all_told(ground):
            told.append("more")
        Ground([NORTH], [])
        self.assertEqual(first, copies)

    def test_two_grounds_of_the_same_lists(self):
        cuts, sayings = list(CUTS), [LATER]
        one, other = Ground(cuts, sayings), Ground(cuts, sayings)
        one.cuts().clear()
        one.sayings().clear()
        self.assertEqual(all_told(one), all_told(other))

    def test_a_refusal_changes_nothing(self):
        cuts, sayings = list(CUTS), [LATER, ("since", "north.a", True)]
        ground = Ground(CUTS, [LATER])
        before = all_told(ground)
        with self.assertRaises(NoGround):
            Ground(cuts, sayings)
        self.assertEqual((cuts, sayings), (CUTS, [LATER, ("since", "north.a", True)]))
        self.assertEqual(all_told(ground), before)


if __name__ == "__main__":
    unittest.main()
