"""Points 16 to 18: bounds, clashes and why a bound is so; of 3 what speaks of them: (f)."""

import itertools
import unittest

from digbook.ground import Ground
from digbook.years import bounds, clash, why_greatest, why_least
from drawings import broad_ground, dated_grounds, flat, free_ground, with_years
from readings import ReadingCase, all_fitting, do_fit, plain_bounds, plain_groups, plain_names, untorn

LEAST, GREATEST = -9999, 9999
BENT = flat("abc", "ab", "cb")


def dated(ground, *said):
    """The ground with sayings of years behind its others, each as `since a 5` of the cut n."""
    more = []
    for row in said:
        word, letter, year = row.split(" ")
        more.append((word, letter if "." in letter else "n." + letter, int(year)))
    return Ground(ground.cuts(), ground.sayings() + more)


def column(letters="abc"):
    return Ground([("n", "\n".join(letters))], [])


class YearsCase(ReadingCase):
    def check_bounds(self, ground, **asked):
        asked = {"n." + letter: pair for letter, pair in asked.items()}
        self.assertEqual(bounds(ground), asked)
        self.assertEqual(plain_bounds(ground), asked)

    def check_no_clash(self, ground):
        self.assertIsNone(clash(ground))
        self.check_clash(ground, None)

    def check_reasons(self, ground):
        for layer in ground.layers():
            self.check_whys(ground, layer, why_least(ground, layer), why_greatest(ground, layer))


class Bounds(YearsCase):
    def test_no_saying_of_years(self):
        self.check_bounds(column(), a=(LEAST, GREATEST), b=(LEAST, GREATEST), c=(LEAST, GREATEST))
        self.check_bounds(flat("a"), a=(LEAST, GREATEST))

    def test_since_goes_up_to_what_is_later(self):
        self.check_bounds(dated(column(), "since b 50"), a=(50, GREATEST), b=(50, GREATEST), c=(LEAST, GREATEST))
        self.check_bounds(dated(column(), "since c 50"), a=(50, GREATEST), b=(50, GREATEST), c=(50, GREATEST))

    def test_by_goes_down_to_what_is_earlier(self):
        self.check_bounds(dated(column(), "by b 50"), a=(LEAST, GREATEST), b=(LEAST, 50), c=(LEAST, 50))
        self.check_bounds(dated(column(), "by a 50"), a=(LEAST, 50), b=(LEAST, 50), c=(LEAST, 50))

    def test_side_by_side_nothing_goes_over(self):
        self.check_bounds(dated(flat("abc"), "since b 7", "by c 3"), a=(LEAST, GREATEST), b=(7, GREATEST), c=(LEAST, 3))
        self.check_bounds(dated(flat("abcd", "ab", "ac", "bd", "cd"), "since b 7", "by b 9"),
                          a=(7, GREATEST), b=(7, 9), c=(LEAST, GREATEST), d=(LEAST, 9))

    def test_several_of_one_deposit(self):
        for said in itertools.permutations(("since a 5", "since a 8", "since a -3", "by a 20", "by a 12", "by a 30")):
            self.check_bounds(dated(flat("ab"), *said), a=(8, 12), b=(LEAST, GREATEST))

    def test_the_greatest_of_those_beneath_and_the_least_of_those_above(self):
        said = ("since a 1", "since b 4", "since c 2", "by a 9", "by b 7", "by c 8")
        for some in (said, said[::-1]):
            self.check_bounds(dated(column(), *some), a=(4, 9), b=(4, 7), c=(2, 7))

    def test_years_below_nought(self):
        self.check_bounds(dated(column("ab"), "since b -50", "since a -80", "by a -10", "by b -5"),
                          a=(-50, -10), b=(-50, -10))

    def test_the_year_nought(self):
        self.check_bounds(dated(column("ab"), "since b 0", "by a 0"), a=(0, 0), b=(0, 0))

    def test_the_first_and_the_last_year(self):
        self.check_bounds(dated(column("ab"), "since b -9999", "by a 9999"), a=(LEAST, GREATEST), b=(LEAST, GREATEST))
        self.check_bounds(dated(column("ab"), "since b 9999", "by b 9999"), a=(9999, GREATEST), b=(9999, 9999))
        self.check_bounds(dated(column("ab"), "since a -9999", "by a -9999"), a=(-9999, -9999), b=(-9999, -9999))

    def test_over_many_links(self):
        letters = "abcdefghijklmnopqrstuvwxyz"
        told = bounds(dated(column(letters), "since z 3", "by a 4"))
        self.assertEqual(told, {"n." + letter: (3, 4) for letter in letters})

    def test_by_later_sayings_and_across_cuts(self):
        ground = Ground([("n", "a\nb"), ("s", "x\ny")], [("since", "s.y", 10), ("later", "n.b", "s.x"), ("by", "n.a", 30)])
        self.assertEqual(bounds(ground), dict.fromkeys(("n.a", "n.b", "s.x", "s.y"), (10, 30)))

    def test_layers_that_are_not_what_their_deposit_is_called(self):
        ground = Ground([("s", "x\ny"), ("n", "a\nb")],
                        [("since", "s.y", 4), ("by", "s.y", 6), ("same", "s.y", "n.a"), ("since", "n.a", 2)])
        self.assertEqual(bounds(ground), {"n.a": (4, 6), "n.b": (LEAST, 6), "s.x": (4, GREATEST)})

    def test_told_where_none_fit_too(self):
        self.check_bounds(dated(column("ab"), "since b 9", "by a 3"), a=(9, 3), b=(9, 3))

    def test_kinds(self):
        told = bounds(dated(column("ab"), "since b 9"))
        self.assertEqual((type(told), type(told["n.a"]), type(told["n.a"][0])), (dict, tuple, int))

    def test_as_read_plainly(self):
        for ground in untorn(dated_grounds(60)):
            self.assertEqual(bounds(ground), plain_bounds(ground))


class WhatFits(YearsCase):
    def check_fit(self, ground):
        """Where none clash, all least ones fit and all greatest ones; else none do."""
        told = bounds(ground)
        fits = clash(ground) is None
        for place in (0, 1):
            self.assertIs(do_fit(ground, {name: pair[place] for name, pair in told.items()}), fits)
        self.assertIs(all(least <= greatest for least, greatest in told.values()), fits)
        return fits

    def test_all_least_ones_and_all_greatest_ones(self):
        told = [self.check_fit(ground) for ground in untorn(dated_grounds(60))]
        self.assertGreater(told.count(True), 30)
        self.assertGreater(told.count(False), 30)

    def test_no_year_beyond_the_bounds_is_in_years_that_fit(self):
        seen = []
        for seed in range(150):
            for ground in untorn([with_years(free_ground(seed), seed, 4, 1, 3), with_years(BENT, seed, 5, 1, 3)]):
                said = {saying[2] for saying in ground.sayings() if saying[0] in ("since", "by")}
                years = sorted({-9999, 0, 9999} | said)
                if len(years) ** len(plain_groups(ground)) < 1500:
                    fitting = all_fitting(ground, years)
                    self.assertIs(clash(ground) is None, bool(fitting))
                    seen.append(bool(fitting))
                    for name, pair in bounds(ground).items():
                        if fitting:
                            told = [some[name] for some in fitting]
                            self.assertEqual((min(told), max(told)), pair)
        self.assertGreater(min(seen.count(True), seen.count(False)), 30)


class Clashes(YearsCase):
    def test_no_sayings(self):
        self.check_no_clash(column())

    def test_sayings_of_one_kind_alone(self):
        self.check_no_clash(dated(column(), "since a 3", "since c 9", "since b 5"))
        self.check_no_clash(dated(column(), "by a 9", "by c 3", "by b 5"))

    def test_two_of_one_deposit(self):
        self.assertEqual(clash(dated(column(), "since b 6", "by b 5")), (0, 1, []))
        self.assertEqual(clash(dated(column(), "by b 5", "since b 6")), (1, 0, []))
        ground = Ground([("n", "a"), ("s", "x")], [("by", "s.x", 3), ("same", "n.a", "s.x"), ("since", "n.a", 4)])
        self.assertEqual(clash(ground), (2, 0, []))

    def test_two_by_a_chain(self):
        self.assertEqual(clash(dated(column(), "since b 6", "by a 5")), (0, 1, [("n.a", "n.b", "n")]))
        self.assertEqual(clash(dated(column(), "by a 5", "since c 6")),
                         (1, 0, [("n.a", "n.b", "n"), ("n.b", "n.c", "n")]))

    def test_the_shortest_chain(self):
        for said in itertools.permutations(("ab", "bc", "cd", "bd")):
            ground = dated(flat("abcd", *said), "since d 6", "by a 5")
            self.assertEqual(clash(ground)[:2], (4, 5))
            self.check_clash(ground, clash(ground))
            self.assertEqual(len(clash(ground)[2]), 2)

    def test_equal_years_do_not_clash(self):
        for row in ("by a 6", "by b 6", "by c 6"):
            self.check_no_clash(dated(column(), "since b 6", row))
            self.check_no_clash(dated(column(), row, "since b 6"))

    def test_one_year_more_clashes(self):
        self.assertIsNotNone(clash(dated(column(), "since b 7", "by b 6")))
        self.assertIsNotNone(clash(dated(column(), "since b 7", "by a 6")))
        self.assertIsNotNone(clash(dated(column(), "since b -6", "by a -7")))
        self.assertIsNotNone(clash(dated(column(), "since b 9999", "by a -9999")))

    def test_a_by_saying_of_an_earlier_deposit_does_not_clash(self):
        self.check_no_clash(dated(column(), "since b 6", "by c 5"))
        self.check_no_clash(dated(column(), "since a 6", "by c 5"))

    def test_where_they_stand_open_they_do_not_clash(self):
        self.check_no_clash(dated(flat("ab"), "since a 6", "by b 5"))

    def test_the_numbers_are_those_among_all_sayings(self):
        ground = Ground([("n", "abc")], [("later", "n.a", "n.b"), ("by", "n.c", 1), ("since", "n.b", 8),
                                         ("later", "n.b", "n.c"), ("by", "n.a", 2)])
        self.assertEqual(clash(ground), (2, 4, [("n.a", "n.b", "#0")]))

    def test_the_least_since_saying_of_several(self):
        ground = dated(column(), "since a 1", "by a 5", "since b 7", "since c 9")
        self.assertEqual(clash(ground)[:2], (2, 1))
        ground = dated(column(), "by a 5", "since c 9", "since a 6", "since b 7")
        self.assertEqual(clash(ground)[:2], (1, 0))

    def test_the_least_by_saying_of_those_that_clash_with_it(self):
        # Ahead of the one are by-sayings of too great years and of a deposit that stands open.
        ground = dated(flat("abc", "ab"), "by c 1", "by a 9", "since b 5", "by b 6", "by a 4", "by b 3")
        self.assertEqual(clash(ground), (3, 5, [("n.a", "n.b", "#0")]))

    def test_the_least_since_saying_goes_ahead_of_the_least_by_saying(self):
        ground = dated(flat("ab"), "by b 1", "since a 5", "since b 5", "by a 2")
        self.assertEqual(clash(ground), (1, 3, []))

    def test_the_first_and_not_the_widest(self):
        ground = dated(column(), "since a 6", "by a 5", "since c 900", "by b -900")
        self.assertEqual(clash(ground), (0, 1, []))

    def test_layers_that_are_not_what_their_deposit_is_called(self):
        ground = Ground([("s", "x\ny"), ("n", "a\nb")],
                        [("same", "s.y", "n.a"), ("since", "s.y", 4), ("by", "s.x", 3)])
        self.assertEqual(clash(ground), (1, 2, [("s.x", "n.a", "s")]))

    def test_as_read_plainly(self):
        lengths = set()
        for ground in untorn(dated_grounds(100)):
            told = clash(ground)
            self.check_clash(ground, told)
            lengths.add(None if told is None else len(told[2]))
        self.assertTrue(lengths >= {None, 0, 1, 2})

    def test_kinds(self):
        told = clash(dated(column(), "since b 6", "by a 5"))
        self.assertEqual([type(part) for part in told], [int, int, list])


class Whys(YearsCase):
    def check_why(self, ground, layer, least, greatest):
        self.assertEqual(why_least(ground, layer), least, layer)
        self.assertEqual(why_greatest(ground, layer), greatest, layer)
        self.check_reasons(ground)

    def test_no_saying(self):
        for layer in ("n.a", "n.b", "n.c"):
            self.check_why(column(), layer, None, None)

    def test_none_that_binds_it(self):
        ground = dated(column(), "since a 5", "by c 8")
        self.check_why(ground, "n.b", None, None)
        self.check_why(ground, "n.a", (0, []), None)
        self.check_why(ground, "n.c", None, (1, []))

    def test_its_own_saying(self):
        self.check_why(dated(column(), "by b 9", "since b 5"), "n.b", (1, []), (0, []))

    def test_one_beneath_and_one_above(self):
        ground = dated(column(), "since c 5", "by a 9")
        self.check_why(ground, "n.a", (0, [("n.a", "n.b", "n"), ("n.b", "n.c", "n")]), (1, []))
        self.check_why(ground, "n.b", (0, [("n.b", "n.c", "n")]), (1, [("n.a", "n.b", "n")]))
        self.check_why(ground, "n.c", (0, []), (1, [("n.a", "n.b", "n"), ("n.b", "n.c", "n")]))

    def test_a_shortest_chain(self):
        for said in itertools.permutations(("ab", "bc", "cd", "bd")):
            ground = dated(flat("abcd", *said), "since d 5", "by a 9")
            self.assertEqual(len(why_least(ground, "n.a")[1]), 2)
            self.assertEqual(len(why_greatest(ground, "n.d")[1]), 2)
            self.check_reasons(ground)

    def test_the_least_number_of_those_with_the_same_year(self):
        ground = dated(column(), "since c 5", "since a 5", "since b 5", "by a 9", "by c 9", "by b 9")
        self.check_why(ground, "n.a", (0, [("n.a", "n.b", "n"), ("n.b", "n.c", "n")]), (3, []))
        self.check_why(ground, "n.c", (0, []), (3, [("n.a", "n.b", "n"), ("n.b", "n.c", "n")]))
        self.check_why(dated(flat("a"), "since a 5", "since a 5", "by a 6", "by a 6"), "n.a", (0, []), (2, []))

    def test_the_bounds_year_goes_ahead_of_the_number(self):
        ground = dated(column(), "since a 4", "since c 5", "since a 3", "by c 9", "by a 8", "by b 10")
        self.check_why(ground, "n.a", (1, [("n.a", "n.b", "n"), ("n.b", "n.c", "n")]), (4, []))
        self.check_why(ground, "n.c", (1, []), (4, [("n.a", "n.b", "n"), ("n.b", "n.c", "n")]))

    def test_one_of_the_same_year_that_does_not_bind_it(self):
        ground = dated(flat("abc", "ab"), "since c 5", "since b 5", "by c 9", "by a 9")
        self.check_why(ground, "n.a", (2, [("n.a", "n.b", "#0")]), (4, []))
        self.check_why(ground, "n.b", (2, []), (4, [("n.a", "n.b", "#0")]))

    def test_the_first_and_the_last_year_said(self):
        ground = dated(column("ab"), "since b -9999", "by a 9999")
        self.check_why(ground, "n.b", (0, []), (1, [("n.a", "n.b", "n")]))

    def test_the_years_nought_and_below(self):
        ground = dated(column("ab"), "since b -5", "since a -7", "by a -1", "by b 0")
        self.check_why(ground, "n.a", (0, [("n.a", "n.b", "n")]), (2, []))

    def test_a_layer_that_is_not_what_its_deposit_is_called(self):
        ground = Ground([("s", "x\ny"), ("n", "a\nb")],
                        [("same", "s.y", "n.a"), ("since", "n.b", 4), ("by", "s.x", 8)])
        self.check_why(ground, "s.y", (1, [("n.a", "n.b", "n")]), (2, [("s.x", "n.a", "s")]))
        self.check_why(ground, "n.a", (1, [("n.a", "n.b", "n")]), (2, [("s.x", "n.a", "s")]))
        ground = Ground([("s", "x"), ("n", "a")], [("since", "s.x", 4), ("same", "s.x", "n.a")])
        self.check_why(ground, "n.a", (0, []), None)
        self.check_why(ground, "s.x", (0, []), None)

    def test_told_where_sayings_clash_too(self):
        ground = dated(column("ab"), "since b 9", "by a 3")
        self.check_why(ground, "n.a", (0, [("n.a", "n.b", "n")]), (1, []))

    def test_as_read_plainly(self):
        for ground in untorn(dated_grounds(40)):
            self.check_reasons(ground)

    def test_of_the_year_that_the_bounds_tell(self):
        for ground in untorn([with_years(broad_ground(seed), seed, 9) for seed in range(30)]):
            told, sayings = bounds(ground), ground.sayings()
            for layer, name in plain_names(ground).items():
                for place, why in ((0, why_least), (1, why_greatest)):
                    if why(ground, layer) is not None:
                        self.assertEqual(sayings[why(ground, layer)[0]][2], told[name][place])

    def test_kinds(self):
        told = why_least(dated(column(), "since b 6"), "n.a")
        self.assertEqual([type(part) for part in told], [int, list])


if __name__ == "__main__":
    unittest.main()
