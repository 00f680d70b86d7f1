"""Point 19: the fewest sayings of years that must be wrong; of 3 what speaks of them: (g)."""

import itertools
import unittest

from digbook.ground import Ground
from digbook.wrong import fewest_wrong
from digbook.years import clash
from drawings import dated_grounds, free_ground, with_years, without
from readings import ReadingCase, fewest_left_out, plain_clashes, plain_names, untorn


def single(*said):
    """One layer, and sayings of it, each as `since 5`."""
    rows = [row.split(" ") for row in said]
    return Ground([("n", "a")], [(word, "n.a", int(year)) for word, year in rows])


class WrongCase(ReadingCase):
    def check(self, ground, count):
        told = fewest_wrong(ground)
        self.check_wrong(ground, told)
        self.assertEqual(len(told[0]), count, told)
        self.assertIsNone(clash(without(ground, told[0])))

    def check_tried(self, ground):
        count = fewest_left_out(ground)
        self.check(ground, count)
        return count


class FewestWrong(WrongCase):
    def test_no_sayings(self):
        self.assertEqual(fewest_wrong(Ground([("n", "a\nb")], [])), ([], []))

    def test_none_that_clash(self):
        self.assertEqual(fewest_wrong(single("since 4", "by 4", "since 3", "by 9")), ([], []))
        self.assertEqual(fewest_wrong(Ground([("n", "a\nb")], [("since", "n.a", 9), ("by", "n.b", 3)])), ([], []))

    def test_one_pair(self):
        for said in (("since 5", "by 4"), ("by 4", "since 5")):
            ground = single(*said)
            self.check(ground, 1)
            self.assertEqual(fewest_wrong(ground)[1], [(said.index("since 5"), said.index("by 4"))])

    def test_one_saying_against_many(self):
        ground = single("by 4", "since 5", "since 6", "since 7")
        self.check(ground, 1)
        self.assertEqual(fewest_wrong(ground)[0], [0])
        ground = single("by 4", "by 3", "by 2", "since 5")
        self.check(ground, 1)
        self.assertEqual(fewest_wrong(ground)[0], [3])

    def test_many_against_many(self):
        for sinces, bys in ((2, 2), (3, 3), (2, 5), (5, 2), (4, 1)):
            self.check(single(*["since 9"] * sinces, *["by 1"] * bys), min(sinces, bys))
            self.check(single(*["by 1"] * bys, *["since 9"] * sinces), min(sinces, bys))

    def test_pairs_apart(self):
        ground = Ground([("n", "abc")], [(word, "n." + letter, year) for letter in "abc"
                                         for word, year in (("since", 5), ("by", 4))])
        self.check(ground, 3)
        self.assertEqual(fewest_wrong(ground)[1], [(0, 1), (2, 3), (4, 5)])

    def test_by_chains(self):
        ground = Ground([("n", "a\nb\nc")], [("since", "n.c", 7), ("by", "n.b", 5), ("by", "n.a", 5)])
        self.check(ground, 1)
        self.assertEqual(fewest_wrong(ground)[0], [0])

    def test_among_other_sayings(self):
        ground = Ground([("n", "abc")], [("by", "n.a", 2), ("later", "n.a", "n.b"), ("same", "n.b", "n.c"),
                                         ("by", "n.a", 3), ("since", "n.c", 7)])
        self.assertEqual(fewest_wrong(ground)[0], [4])
        self.check(ground, 1)

    def test_where_the_saying_with_the_most_clashes_first_is_not_the_best(self):
        # The by-saying of m clashes with the four since-sayings of a to d; each of them clashes
        # with one more. Those four must go, and then that one can stay.
        letters = "abcd"
        pairs = [("later", "n.m", "n." + letter) for letter in letters]
        said = [("by", "n.m", 3)] + [(word, "n." + letter, year) for letter in letters
                                     for word, year in (("since", 5), ("by", 4))]
        for some in (pairs + said, said + pairs, pairs + said[::-1], said[1:] + pairs + said[:1]):
            ground = Ground([("n", "abcdm")], some)
            counts = [number for pair in plain_clashes(ground) for number in pair]
            most = max(counts, key=counts.count)
            self.assertEqual((some[most], counts.count(most)), (("by", "n.m", 3), 4))
            self.check(ground, 4)
            self.assertEqual([some[number][0] for number in fewest_wrong(ground)[0]], ["since"] * 4)

    def test_pairs_that_must_be_changed_several_times(self):
        # Each since-saying clashes with two by-sayings, the last one with the first of them alone.
        letters = "abcdef"
        for turn in range(6):
            said = [("since", "n." + letter, 5) for letter in letters[turn:] + letters[:turn]]
            said += [("by", "s." + letter, 4) for letter in letters]
            said += [("later", "s." + one, "n." + other) for one, other in zip(letters, letters)]
            said += [("later", "s." + one, "n." + other) for one, other in zip(letters[1:], letters)]
            self.check_tried(Ground([("n", letters), ("s", letters)], said))
            self.check_tried(Ground([("n", letters), ("s", letters)], said[::-1]))

    def test_the_year_nought_and_the_number_nought(self):
        self.assertEqual(fewest_wrong(single("since 0", "by -1", "by -2"))[0], [0])
        self.check(single("since 0", "by -1", "by -2"), 1)
        self.check(single("by -1", "since 0", "since 0"), 1)

    def test_sixty_sayings_of_years(self):
        for sinces in (1, 20, 30, 40, 59):
            ground = single(*["since 9"] * sinces, *["by 1"] * (60 - sinces))
            self.check(ground, min(sinces, 60 - sinces))
        steps = [f"{word} {year}" for year in range(30) for word in ("since", "by")]
        self.check(single(*steps), 29)

    def test_layers_that_are_not_what_their_deposit_is_called(self):
        ground = Ground([("s", "x\ny"), ("n", "a\nb")],
                        [("same", "s.y", "n.a"), ("since", "s.y", 4), ("by", "s.x", 3), ("by", "n.a", 3)])
        self.assertEqual(plain_names(ground)["s.y"], "n.a")
        self.assertEqual(fewest_wrong(ground)[0], [1])
        self.check(ground, 1)


class Drawn(WrongCase):
    def test_that_no_fewer_will_do(self):
        counts = [self.check_tried(ground) for ground in untorn(dated_grounds(70))]
        self.assertTrue(set(counts) >= {0, 1, 2, 3})

    def test_many_sayings_of_few_layers(self):
        counts = set()
        for seed in range(120):
            for ground in untorn([with_years(free_ground(seed), seed, 12, 1, 6)]):
                counts.add(self.check_tried(ground))
        self.assertTrue(counts >= {1, 2, 3, 4, 5})

    def test_every_choice_of_four_sayings(self):
        choices = [(word, "n." + letter, year) for word, year in (("since", 1), ("since", 2), ("by", 0), ("by", 1))
                   for letter in "ab"]
        for said in itertools.combinations(choices, 4):
            self.check_tried(Ground([("n", "a\nb")], list(said)))
            self.check_tried(Ground([("n", "ab")], list(said[::-1])))

    def test_kinds(self):
        told = fewest_wrong(single("since 5", "by 4"))
        self.assertEqual([type(told)] + [type(part) for part in told], [tuple, list, list])
        self.assertEqual((type(told[0][0]), type(told[1][0])), (int, tuple))


if __name__ == "__main__":
    unittest.main()
