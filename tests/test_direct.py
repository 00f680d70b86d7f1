"""Points 13 and 14: the direct pairs and the levels; of 3 what speaks of them: (d)."""

import itertools
import unittest

from digbook.cuts import turned, wider
from digbook.direct import direct_pairs, levels
from digbook.ground import Ground
from drawings import ALPHABET, broad_ground, drawn_cut, flat, free_ground, met_pairs, settled_ground
from readings import ReadingCase, fewest_links, leads_to, plain_direct, plain_groups, plain_levels, untorn


def drawn_grounds():
    return (untorn(free_ground(seed) for seed in range(200)) + [settled_ground(seed) for seed in range(30)]
            + [broad_ground(seed, ("n", "s", "w"), 6, 9, 9) for seed in range(30)])


class DirectCase(ReadingCase):
    def check_pairs(self, ground, *pairs):
        """Just these pairs, each of two letters of the cut n or of two layers."""
        asked = [tuple("n." + letter for letter in pair) if isinstance(pair, str) else pair for pair in pairs]
        self.assertEqual(direct_pairs(ground), asked)
        self.assertEqual(plain_direct(ground), asked)


class DirectPairs(DirectCase):
    def test_no_link_at_all(self):
        self.check_pairs(flat("a"))
        self.check_pairs(flat("abc"))
        self.check_pairs(Ground([("n", "a"), ("s", "a")], [("same", "n.a", "s.a"), ("since", "n.a", 3)]))

    def test_a_link(self):
        self.check_pairs(flat("ab", "ab"), "ab")
        self.check_pairs(flat("ab", "ba"), "ba")
        self.check_pairs(Ground([("n", "b\na")], []), "ba")

    def test_a_link_that_a_chain_of_two_replaces(self):
        for said in itertools.permutations(("ab", "bc", "ac")):
            self.check_pairs(flat("abc", *said), "ab", "bc")
        self.check_pairs(Ground([("n", "a\nb\nc")], [("later", "n.a", "n.c")]), "ab", "bc")
        self.check_pairs(Ground([("n", "aa\nbc\ncc")], []), "ab", "bc")

    def test_a_link_that_a_chain_of_three_replaces(self):
        for said in itertools.permutations(("ab", "bc", "cd", "ad")):
            self.check_pairs(flat("abcd", *said), "ab", "bc", "cd")
        for said in itertools.permutations(("dc", "cb", "ba", "da")):
            self.check_pairs(flat("abcd", *said), "ba", "cb", "dc")

    def test_a_chain_of_links_that_are_themselves_replaced(self):
        pairs = ["".join(pair) for pair in itertools.combinations("abcde", 2)]
        self.check_pairs(flat("abcde", *pairs), "ab", "bc", "cd", "de")
        self.check_pairs(flat("abcde", *pairs[::-1]), "ab", "bc", "cd", "de")

    def test_two_chains_of_two_replace_nothing_of_each_other(self):
        self.check_pairs(flat("abcd", "ab", "ac", "bd", "cd"), "ab", "ac", "bd", "cd")
        self.check_pairs(flat("abcd", "ab", "ac", "bd", "cd", "ad"), "ab", "ac", "bd", "cd")

    def test_several_links_of_the_same_two_are_told_once(self):
        self.check_pairs(flat("abc", "ab", "ab", "ab", "bc", "bc"), "ab", "bc")
        self.check_pairs(Ground([("n", "a\nb")], [("later", "n.a", "n.b"), ("later", "n.a", "n.b")]), "ab")
        ground = Ground([("n", "a\nb"), ("s", "x\ny"), ("w", "pp\nqq")],
                        [("same", "n.a", "s.x"), ("same", "s.y", "n.b"), ("same", "w.q", "n.b"), ("same", "n.a", "w.p")])
        self.check_pairs(ground, "ab")

    def test_several_links_of_the_same_two_and_a_chain(self):
        self.check_pairs(flat("abc", "ac", "ab", "ac", "bc", "ac"), "ab", "bc")

    def test_sorted(self):
        self.check_pairs(flat("abcdef", "fa", "eb", "fe", "dc", "db", "fd"), "db", "dc", "eb", "fa", "fd", "fe")

    def test_deposits_by_what_they_are_called(self):
        ground = Ground([("s", "x\ny\nz"), ("n", "a\nb")], [("same", "s.y", "n.a"), ("later", "s.x", "n.b")])
        self.check_pairs(ground, "ab", ("n.a", "s.z"), ("s.x", "n.a"))

    def test_a_chain_across_cuts_replaces_a_cuts_link(self):
        cuts = [("n", "a\nb"), ("s", "x\ny\nz")]
        self.check_pairs(Ground(cuts, [("same", "n.a", "s.x"), ("same", "n.b", "s.z")]),
                         ("n.a", "s.y"), ("s.y", "n.b"))
        self.check_pairs(Ground(cuts, [("later", "n.a", "s.x"), ("later", "s.z", "n.b")]),
                         ("n.a", "s.x"), ("s.x", "s.y"), ("s.y", "s.z"), ("s.z", "n.b"))

    def test_a_cut_of_many_letters_in_one_column(self):
        for letters in (ALPHABET, ALPHABET[::-1], ALPHABET[::2] + ALPHABET[1::2]):
            self.check_pairs(Ground([("n", "\n".join(letters))], []),
                             *sorted(one + other for one, other in zip(letters, letters[1:])))

    def test_a_cut_of_many_letters_in_one_row(self):
        self.check_pairs(Ground([("n", ALPHABET)], []))

    def test_a_cut_of_several_columns(self):
        self.check_pairs(Ground([("n", "ab\ncd")], []), "ac", "bd")
        self.check_pairs(Ground([("n", "..a\nbba\nccc")], []), "ac", "bc")
        self.check_pairs(Ground([("n", "ab.\nacd\neee")], []), "ae", "bc", "ce", "de")
        self.check_pairs(Ground([("n", "aab\nbcc\ndcd")], []), "ab", "bc", "cd")

    def test_kinds(self):
        told = direct_pairs(flat("ab", "ab"))
        self.assertEqual((type(told), type(told[0]), type(told[0][0])), (list, tuple, str))


class WhatFollowsFromThem(DirectCase):
    def test_as_read_plainly(self):
        for ground in drawn_grounds():
            self.assertEqual(direct_pairs(ground), plain_direct(ground))

    def test_from_them_all_else_follows_and_none_can_be_left_out(self):
        for ground in drawn_grounds():
            told, later = direct_pairs(ground), set(fewest_links(ground))
            self.assertEqual(leads_to(told), later)
            for pair in told:
                self.assertNotEqual(leads_to([other for other in told if other != pair]), later)

    def test_a_cut_turned_about_or_drawn_wider(self):
        for seed in range(80):
            text = drawn_cut(seed, 4, 4, "abcdefgh")
            ground = Ground([("n", text)], [])
            if untorn([ground]):
                self.assertLessEqual(set(direct_pairs(ground)), {("n." + a, "n." + b) for a, b in met_pairs(text)})
                for other in (turned(text), wider(text, 3)):
                    self.assertEqual(direct_pairs(Ground([("n", other)], [])), direct_pairs(ground))
                    self.assertEqual(levels(Ground([("n", other)], [])), levels(ground))


class Levels(DirectCase):
    def check_levels(self, ground, **asked):
        asked = {"n." + letter: level for letter, level in asked.items()}
        self.assertEqual(levels(ground), asked)
        self.assertEqual(plain_levels(ground), asked)

    def test_without_links(self):
        self.check_levels(flat("a"), a=0)
        self.check_levels(flat("abc"), a=0, b=0, c=0)

    def test_one_link(self):
        self.check_levels(flat("abc", "ab"), a=1, b=0, c=0)
        self.check_levels(flat("abc", "ca"), a=0, b=0, c=1)

    def test_a_cut_from_the_ground_up(self):
        self.check_levels(Ground([("n", "a\nb\nc\nd")], []), a=3, b=2, c=1, d=0)
        self.check_levels(Ground([("n", "c\na\nd\nb")], []), a=2, b=0, c=3, d=1)

    def test_the_longest_chain_counts(self):
        for said in itertools.permutations(("ab", "bc", "cd", "ad")):
            self.check_levels(flat("abcd", *said), a=3, b=2, c=1, d=0)
        for said in itertools.permutations(("ab", "bc", "ac")):
            self.check_levels(flat("abc", *said), a=2, b=1, c=0)

    def test_the_longest_chain_counts_whichever_deposit_it_leads_to(self):
        self.check_levels(flat("abcde", "ab", "ac", "cd", "de"), a=3, b=0, c=2, d=1, e=0)
        self.check_levels(flat("abcde", "ae", "ad", "dc", "cb"), a=3, b=0, c=1, d=2, e=0)

    def test_what_lies_above_does_not_count(self):
        self.check_levels(flat("abcd", "ab", "bc", "dc"), a=2, b=1, c=0, d=1)

    def test_several_links_of_the_same_two(self):
        self.check_levels(flat("abc", "ab", "ab", "ab", "bc"), a=2, b=1, c=0)

    def test_several_layers_in_one_deposit(self):
        ground = Ground([("s", "x\ny\nz"), ("n", "a\nb")], [("same", "s.z", "n.a")])
        self.assertEqual(levels(ground), {"n.a": 1, "n.b": 0, "s.x": 3, "s.y": 2})
        ground = Ground([("n", "ab"), ("s", "c")], [("same", "n.a", "s.c"), ("same", "n.b", "s.c")])
        self.assertEqual(levels(ground), {"n.a": 0})

    def test_sayings_of_years_change_nothing(self):
        ground = Ground([("n", "a\nb")], [("since", "n.b", 3), ("by", "n.a", 8)])
        self.check_levels(ground, a=1, b=0)

    def test_as_read_plainly(self):
        for ground in drawn_grounds():
            told = levels(ground)
            self.assertEqual(told, plain_levels(ground))
            self.assertEqual(sorted(told), [group[0] for group in plain_groups(ground)])

    def test_kinds(self):
        told = levels(flat("ab", "ab"))
        self.assertIs(type(told), dict)
        self.assertEqual({type(level) for level in told.values()}, {int})


if __name__ == "__main__":
    unittest.main()
