"""Points 4 and 5: names, cuts, letters, meetings, turned, wider."""

import unittest

from digbook.cuts import is_name, letters, meetings, rows_of, turned, wider
from digbook.errors import NoCut
from drawings import drawn_cut, met_pairs

NO_TEXTS = (None, True, False, 0, 7, 1.5, b"a", bytearray(b"a"), [], ["a"], (), ("a",), {}, {"a": 1}, {"a"},
            object(), str, len)
SEEDS = range(200)
ALL_LETTERS = "abcdefghijklmnopqrstuvwxyz"


class Names(unittest.TestCase):
    def test_one_to_eight_small_letters(self):
        for text in ("a", "z", "north", "abcdefgh", "zzzzzzzz", "aa") + tuple(ALL_LETTERS):
            self.assertIs(is_name(text), True, text)

    def test_no_sign_and_nine_signs(self):
        for text in ("", "abcdefghi", "a" * 40):
            self.assertIs(is_name(text), False, text)

    def test_other_signs(self):
        for text in ("A", "North", "nortH", "a1", "1", "7a", "a.b", ".", "a.", ".a", " ", "a ", " a", "a b",
                     "a\n", "\na", "\n", "a\t", "a_b", "a-b", "#", "`", "{", "a/", "abcdefg\n", "\u00e4", "\uff41"):
            self.assertIs(is_name(text), False, repr(text))

    def test_what_is_no_text(self):
        for thing in NO_TEXTS:
            self.assertIs(is_name(thing), False, repr(thing))

    def test_a_list_of_letters_is_no_name(self):
        for thing in (["a", "b"], ("a", "b"), {"a": 1, "b": 2}):
            self.assertIs(is_name(thing), False)


class CutCase(unittest.TestCase):
    def refused(self, row, thing):
        with self.assertRaises(NoCut, msg=repr(thing)) as taken:
            rows_of(thing)
        self.assertEqual(taken.exception.row, row, repr(thing))
        self.assertNotIsInstance(taken.exception.row, bool)


class Rows(CutCase):
    def test_rows_from_the_top_down(self):
        self.assertEqual(rows_of("..a\nbba\nccc"), ["..a", "bba", "ccc"])

    def test_one_row(self):
        for row in ("a", "abc", "a.b", "." * 39 + "z", "z" * 40):
            self.assertEqual(rows_of(row), [row])

    def test_each_letter_and_air(self):
        self.assertEqual(rows_of("." + ALL_LETTERS), ["." + ALL_LETTERS])

    def test_air_above_letters(self):
        for rows in (["..", "..", ".a", "ba"], [".", "a"], ["....", "aaaa"]):
            self.assertEqual(rows_of("\n".join(rows)), rows)

    def test_a_letter_somewhere_in_the_last_row_is_enough(self):
        self.assertEqual(rows_of("...\n...\n.a."), ["...", "...", ".a."])

    def test_forty_rows_and_the_forty_first(self):
        self.assertEqual(rows_of("\n".join(["a"] * 40)), ["a"] * 40)
        self.refused(40, "\n".join(["a"] * 41))
        self.refused(40, "\n".join(["a"] * 60))

    def test_the_forty_first_row_of_air_alone(self):
        self.refused(40, "\n".join(["."] * 41))

    def test_the_forty_first_row_without_signs(self):
        self.refused(40, "a\n" * 40)

    def test_1_40_and_41_signs(self):
        self.assertEqual(rows_of("a\nb"), ["a", "b"])
        self.assertEqual(rows_of("a" * 40 + "\n" + "b" * 40), ["a" * 40, "b" * 40])
        self.refused(0, "a" * 41)
        self.refused(0, "a" * 41 + "\n" + "a" * 41)
        self.refused(1, "a" * 40 + "\n" + "a" * 41)

    def test_a_full_drawing(self):
        rows = ["a" * 40] * 40
        self.assertEqual(rows_of("\n".join(rows)), rows)


class RefusedCuts(CutCase):
    def test_a_row_without_signs(self):
        self.refused(0, "")
        self.refused(0, "\n")
        self.refused(0, "\na")
        self.refused(0, "\n\n\n")
        self.refused(1, "a\n\na")
        self.refused(1, "a\n")
        self.refused(2, "aa\nbb\n")
        self.refused(1, "a\n\n")

    def test_a_row_of_another_length(self):
        self.refused(1, "aa\na")
        self.refused(1, "a\naa")
        self.refused(2, "aa\naa\naaa\naa")
        self.refused(3, "..\n..\n.a\na")

    def test_another_sign(self):
        for sign in "A", "Z", "0", "9", " ", "-", "#", "/", "`", "{", "_", "\t", "~", "\r", "\u00e4":
            self.refused(0, sign)
            self.refused(0, "a" + sign + "b")
            self.refused(1, "aab\na" + sign + "b\naab")
            self.refused(2, "aab\naab\nab" + sign)

    def test_blanks_are_no_air(self):
        self.refused(0, " a\nba")

    def test_other_row_ends_part_no_rows(self):
        for end in "\r", "\x0b", "\x0c", "\x1c", "\x85", "\u2028":
            self.refused(0, "a" + end + "a")
        self.refused(0, "a\r\na")

    def test_air_right_beneath_a_letter(self):
        self.refused(1, "a\n.")
        self.refused(1, "ab\na.")
        self.refused(2, "..\n.a\n..")
        self.refused(1, "a\n.\na")
        self.refused(3, "...\n..a\n.aa\naa.\naaa")

    def test_rows_of_air_alone(self):
        self.refused(0, ".")
        self.refused(0, "....")
        self.refused(0, "..\n..\n..")
        self.refused(0, "\n".join(["." * 40] * 40))

    def test_what_is_no_text(self):
        for thing in NO_TEXTS:
            self.refused(0, thing)

    def test_several_faults_the_first_row_is_told(self):
        self.refused(1, "aa\na.\naA\n")
        self.refused(1, "aa\naA\na.\na")
        self.refused(2, "aa\naa\na\n..")
        self.refused(1, "aa\n\nA")
        self.refused(0, "A\n\n.")
        self.refused(0, "a" * 41 + "\n.")
        self.refused(3, "...\n...\n...\n..\n")
        self.refused(1, "..\n.\n..")
        self.refused(5, "\n".join(["a"] * 5 + ["."] + ["a"] * 40))
        self.refused(40, "\n".join(["a"] * 40 + ["A", "a.", ""]))

    def test_several_faults_in_one_row(self):
        self.refused(1, "aa\n.A.")
        self.refused(2, "ab\nab\n" + "." * 41)


class LettersAndMeetings(unittest.TestCase):
    def test_letters_sorted_each_once(self):
        self.assertEqual(letters("..z\nbbz\naba"), ["a", "b", "z"])
        self.assertEqual(letters("q"), ["q"])
        self.assertEqual(letters("zyx\nxyz"), ["x", "y", "z"])
        self.assertEqual(letters(ALL_LETTERS[::-1]), list(ALL_LETTERS))

    def test_air_is_no_letter(self):
        self.assertEqual(letters(".a"), ["a"])

    def test_meetings_sorted_each_once(self):
        self.assertEqual(meetings("ba\nab\nba"), [("a", "b"), ("b", "a")])
        self.assertEqual(meetings("zzzz\nyyyy\nxxxx"), [("y", "x"), ("z", "y")])

    def test_unlike_letters_alone(self):
        self.assertEqual(meetings("a\na\na"), [])
        self.assertEqual(meetings("ab\nab"), [])
        self.assertEqual(meetings("a\na\nb\nb"), [("a", "b")])

    def test_only_what_stands_right_above(self):
        self.assertEqual(meetings("a\nb\nc"), [("a", "b"), ("b", "c")])

    def test_side_by_side_is_no_meeting(self):
        self.assertEqual(meetings("abc"), [])
        self.assertEqual(meetings("ab\ncc"), [("a", "c"), ("b", "c")])

    def test_aslant_is_no_meeting(self):
        self.assertEqual(meetings(".a\nba"), [])

    def test_air_meets_nothing(self):
        self.assertEqual(meetings("...\n.a.\nbac"), [])

    def test_a_meeting_in_any_place(self):
        for place in range(5):
            top = "a" * place + "x" + "a" * (4 - place)
            self.assertEqual(meetings("aaaaa\n" + top + "\naaaaa"), [("a", "x"), ("x", "a")], place)

    def test_meetings_of_the_last_rows(self):
        self.assertEqual(meetings("..\n..\n.a\nab"), [("a", "b")])
        self.assertEqual(meetings("\n".join(["a"] * 39 + ["b"])), [("a", "b")])

    def test_meetings_of_drawn_cuts(self):
        for seed in SEEDS:
            text = drawn_cut(seed)
            self.assertEqual(meetings(text), met_pairs(text), text)
            self.assertEqual(letters(text), sorted(set(text) - set(".\n")), text)

    def test_kinds(self):
        self.assertIsInstance(letters("a"), list)
        told = meetings("a\nb")
        self.assertIsInstance(told, list)
        self.assertIsInstance(told[0], tuple)


class Turned(unittest.TestCase):
    def test_each_row_from_its_last_sign_to_its_first(self):
        self.assertEqual(turned("..a\nbba\ncde"), "a..\nabb\nedc")
        self.assertEqual(turned("abc"), "cba")
        self.assertEqual(turned("a\nb"), "a\nb")

    def test_turned_twice_it_is_the_cut(self):
        for seed in SEEDS:
            text = drawn_cut(seed)
            self.assertEqual(turned(turned(text)), text)

    def test_it_is_a_cut_with_the_same_letters_and_meetings(self):
        for seed in SEEDS:
            text = drawn_cut(seed)
            rows_of(turned(text))
            self.assertEqual(letters(turned(text)), letters(text))
            self.assertEqual(meetings(turned(text)), meetings(text))


class Wider(unittest.TestCase):
    def refused(self, text, times):
        with self.assertRaises(NoCut) as taken:
            wider(text, times)
        self.assertEqual(taken.exception.row, 0)

    def test_each_sign_so_often_side_by_side(self):
        self.assertEqual(wider(".a\nba", 3), "...aaa\nbbbaaa")
        self.assertEqual(wider("abc", 2), "aabbcc")

    def test_by_one_it_is_the_cut(self):
        for text in ("..a\nbba", "a", "a" * 40):
            self.assertEqual(wider(text, 1), text)

    def test_by_nine(self):
        self.assertEqual(wider(".a\nbc", 9), "." * 9 + "a" * 9 + "\n" + "b" * 9 + "c" * 9)
        self.assertEqual(wider("abcd", 9), "a" * 9 + "b" * 9 + "c" * 9 + "d" * 9)

    def test_just_forty_signs_and_more(self):
        self.assertEqual(wider("a" * 20, 2), "a" * 40)
        self.refused("a" * 21, 2)
        self.assertEqual(wider("abcde\nfghij", 8), "\n".join(["".join(s * 8 for s in r) for r in ("abcde", "fghij")]))
        self.refused("abcde", 9)
        self.refused(".....\nabcde\nabcde", 9)
        self.refused("a" * 40, 2)
        self.refused("a" * 40, 9)

    def test_a_number_beyond_nine_is_not_refused_for_itself(self):
        self.assertEqual(wider("abcd", 10), "a" * 10 + "b" * 10 + "c" * 10 + "d" * 10)
        self.refused("abcd", 11)

    def test_it_is_a_cut_with_the_same_letters_and_meetings(self):
        for seed in SEEDS:
            text = drawn_cut(seed, most_signs=4)
            for times in range(1, 10):
                broad = wider(text, times)
                rows_of(broad)
                self.assertEqual(letters(broad), letters(text))
                self.assertEqual(meetings(broad), meetings(text))


class NewLists(unittest.TestCase):
    def test_told_lists_are_the_askers_own(self):
        for tell in rows_of, letters, meetings:
            first = tell("ab\ncd")
            kept = list(first)
            first.append("more")
            first[0] = "other"
            self.assertEqual(tell("ab\ncd"), kept)

    def test_the_same_answers_behind_a_refusal(self):
        before = rows_of("a\nb")
        with self.assertRaises(NoCut):
            rows_of("a\n.")
        self.assertEqual(rows_of("a\nb"), before)
        self.assertEqual(meetings("a\nb"), [("a", "b")])


if __name__ == "__main__":
    unittest.main()
