"""Point 15: the fewest rows and the widest set; of 3 what speaks of them: (e), and the end of (h)."""

import itertools
import unittest

from digbook.cuts import turned, wider
from digbook.ground import Ground
from digbook.rows import fewest_rows, widest
from drawings import ALPHABET, broad_ground, drawn_cut, flat, free_ground, settled_ground
from readings import ReadingCase, fewest_rows_tried, plain_groups, plain_links, untorn, widest_tried

# The longest row is a b c d, and leaves x and y, each a row by itself; a b x and y c d have all.
CROSSED = ("ab", "bc", "cd", "bx", "yc")


class RowsCase(ReadingCase):
    def check(self, ground, count):
        self.check_rows(ground, fewest_rows(ground), count)
        self.check_widest(ground, widest(ground), count)

    def check_tried(self, ground):
        count = fewest_rows_tried(ground)
        self.check(ground, count)
        self.assertEqual(widest_tried(ground), count)


class Rows(RowsCase):
    def test_one_deposit(self):
        for ground in (flat("a"), Ground([("n", "ab")], [("same", "n.a", "n.b")])):
            self.assertEqual(fewest_rows(ground), [["n.a"]])
            self.assertEqual(widest(ground), ["n.a"])

    def test_without_links_as_many_rows_as_deposits(self):
        for count in (2, 3, 26):
            ground, names = flat(ALPHABET[:count][::-1]), ["n." + letter for letter in ALPHABET[:count]]
            self.assertEqual(fewest_rows(ground), [[name] for name in names])
            self.assertEqual(widest(ground), names)

    def test_all_in_one_row(self):
        for letters in ("ab", "ba", "abc", "cab", ALPHABET, ALPHABET[::-1]):
            ground = Ground([("n", "\n".join(letters))], [])
            self.assertEqual(fewest_rows(ground), [["n." + letter for letter in letters]])
            self.check(ground, 1)

    def test_all_in_one_row_across_cuts(self):
        ground = Ground([("n", "a\nb"), ("s", "a\nb")], [("later", "s.b", "n.a")])
        self.assertEqual(fewest_rows(ground), [["s.a", "s.b", "n.a", "n.b"]])
        self.check(ground, 1)

    def test_two_cuts_apart(self):
        ground = Ground([("s", "a\nb"), ("n", "x\na\nb")], [])
        self.assertEqual(fewest_rows(ground), [["n.x", "n.a", "n.b"], ["s.a", "s.b"]])
        self.check(ground, 2)

    def test_one_with_several_beneath_or_above(self):
        self.check(flat("abcd", "ab", "ac", "ad"), 3)
        self.check(flat("abcd", "ba", "ca", "da"), 3)
        self.check(flat("abcde", "ba", "ca", "ad", "ae"), 2)

    def test_where_the_longest_row_first_would_need_too_many(self):
        for letters in ("abcdxy", "dcbayx", "xayb" + "cd", "cydaxb", "bxacyd"):
            ground = flat("abcdxy", *[pair.translate(str.maketrans("abcdxy", letters)) for pair in CROSSED])
            self.check(ground, 2)
            self.check_tried(ground)
        for said in itertools.permutations(CROSSED):
            self.check(flat("abcdxy", *said), 2)

    def test_rows_that_go_by_chains_and_not_by_links_alone(self):
        for letters in itertools.permutations("abcde"):
            first, second, middle, third, fourth = letters
            ground = flat("abcde", first + middle, second + middle, middle + third, middle + fourth)
            self.check(ground, 2)
            steps = [(ahead, behind) for row in fewest_rows(ground) for ahead, behind in zip(row, row[1:])]
            self.assertFalse(set(steps) <= {link[:2] for link in plain_links(ground)})

    def test_over_a_chain_of_many_links(self):
        middle = ["".join(pair) for pair in zip("cdefg", "defgh")]
        self.check(flat("abcdefghxy", "ac", "bc", *middle, "hx", "hy"), 2)

    def test_a_deposit_that_must_be_passed_on_several_times(self):
        # Each has the next two beneath it: the rows must be shifted along when the last one has none.
        pairs = [one + other for one, others in zip("abcd", ("wx", "xy", "yz", "w")) for other in others]
        for said in (pairs, pairs[::-1], pairs[::2] + pairs[1::2]):
            self.check(flat("abcdwxyz", *said), 4)

    def test_several_layers_in_one_deposit(self):
        ground = Ground([("s", "x\ny"), ("n", "a\nb")], [("same", "s.y", "n.a")])
        self.assertEqual(fewest_rows(ground), [["s.x", "n.a", "n.b"]])
        self.check(ground, 1)
        self.check(Ground([("s", "x\ny"), ("n", "a\nb")], [("same", "s.x", "n.a")]), 2)

    def test_sorted_by_their_first_ones(self):
        ground = flat("abcdef", "fa", "eb", "dc")
        self.assertEqual(fewest_rows(ground), [["n.d", "n.c"], ["n.e", "n.b"], ["n.f", "n.a"]])

    def test_sayings_of_years_change_nothing(self):
        self.check(Ground([("n", "ab")], [("since", "n.a", 100), ("by", "n.b", 5)]), 2)

    def test_kinds(self):
        ground = flat("ab", "ab")
        self.assertEqual((type(fewest_rows(ground)), type(fewest_rows(ground)[0]), type(widest(ground))),
                         (list, list, list))
        self.assertEqual({type(name) for name in fewest_rows(ground)[0] + widest(ground)}, {str})


class Drawn(RowsCase):
    def test_free_grounds(self):
        counts = set()
        for ground in untorn(free_ground(seed) for seed in range(400)):
            if len(plain_groups(ground)) <= 8:
                self.check_tried(ground)
                counts.add(len(fewest_rows(ground)))
        self.assertTrue(counts >= {1, 2, 3, 4, 5})

    def test_broad_grounds(self):
        for seed in range(60):
            self.check_tried(broad_ground(seed))
            self.check_tried(broad_ground(seed, ("n",), 8, 12, 2))
            self.check_tried(broad_ground(seed, ("n", "s", "w"), 3, 4, 5))

    def test_every_ground_of_four_layers(self):
        """Each set of links that go from a letter to one behind it."""
        pairs = ["".join(pair) for pair in itertools.combinations("abcd", 2)]
        for count in range(len(pairs) + 1):
            for said in itertools.combinations(pairs, count):
                self.check_tried(flat("abcd", *said))

    def test_as_many_in_the_widest_set_as_rows(self):
        for seed in range(60):
            for ground in (settled_ground(seed), broad_ground(seed, ("n", "s", "w"), 9, 9, 20),
                           broad_ground(seed, ("n", "s", "w"), 9, 27, 5)):
                count = len(fewest_rows(ground))
                self.check(ground, count)

    def test_a_cut_turned_about_or_drawn_wider(self):
        for seed in range(120):
            texts = [drawn_cut(seed, 4, 4, "abcdefgh"), drawn_cut(seed + 1000, 4, 4, "abcd")]
            said = [("later", "n." + max(texts[0]), "s." + max(texts[1]))]
            ground = Ground(list(zip("ns", texts)), said)
            if untorn([ground]):
                for change in (turned, lambda text: wider(text, 2), lambda text: wider(text, 9)):
                    other = Ground([(name, change(text)) for name, text in zip("ns", texts)], said)
                    self.assertEqual(other.ties(), ground.ties())
                    self.check(other, len(fewest_rows(ground)))


if __name__ == "__main__":
    unittest.main()
