"""Point 21: the desk, its rows with their answers, and which refusal comes ahead of which."""

import itertools
import random
import re
import unittest

from digbook.book import Book
from digbook.chains import standing
from digbook.deposits import deposit_of, deposits
from digbook.desk import Desk
from digbook.direct import direct_pairs, levels
from digbook.errors import DigError, NoDeed, NoGround, NoLayer, NoRow, NoSaying, Torn
from digbook.ground import Ground
from digbook.orders import order
from digbook.rings import ring
from digbook.rows import fewest_rows
from digbook.wrong import fewest_wrong
from digbook.years import bounds
from drawings import ALPHABET, dated_grounds, greatest_ground, with_years

CUTS = ["cut n a/b/c", "cut s xy"]
# A row of each kind that is asked of a ground, whatever comes of it.
ASKED = ("state", "sayings", "order", "stand n.a n.b", "deposit n.a", "direct", "level n.a", "rows", "years n.a",
         "wrong", "ring")
TORN_ROWS = ("order", "stand n.a n.b", "direct", "level n.a", "rows", "years n.a", "wrong")
ROW_FORMS = re.compile("|".join((
    "cut [^ \n]* [^ \n]*", "(later|same|stand) [^ \n]* [^ \n]*", "(deposit|level|years) [^ \n]*",
    "(since|by) [^ \n]* (0|-?[1-9][0-9]{0,3})", "back (0|[1-9][0-9]{0,3})",
    "undo|state|sayings|order|direct|rows|wrong|ring")))


def desk_of(*rows):
    desk = Desk()
    for row in CUTS + list(rows):
        if desk.say(row) != "ok":
            raise AssertionError(row)
    return desk


class DeskCase(unittest.TestCase):
    def check(self, desk, *pairs):
        """Rows with their answers, each pair as `row: answer`."""
        for pair in pairs:
            row, _, asked = pair.partition(": ")
            self.assertEqual(desk.say(row), asked, row)

    def refused(self, error, desk, row):
        with self.assertRaises(DigError, msg=repr(row)) as taken:
            desk.say(row)
        self.assertIs(type(taken.exception), error, row)
        return taken.exception

    def refused_ground(self, desk, row, part, number):
        error = self.refused(NoGround, desk, row)
        self.assertEqual((error.part, error.number), (part, number), row)

    def check_has_book(self, desk, has):
        """Asked in a way that changes nothing: a cut without a name is refused by either."""
        if has:
            self.refused(NoDeed, desk, "cut  a")
        else:
            self.refused(NoGround, desk, "cut  a")


class Answers(DeskCase):
    def test_a_whole_day(self):
        self.check(Desk(), "cut north ..a/bba/ccc: ok", "cut south a/b: ok", "state: fits", "sayings: 0",
                   "later north.a south.a: ok", "same north.c south.b: ok", "since north.b 1200: ok",
                   "by south.a 1500: ok", "sayings: 4", "order: north.c north.b south.a north.a",
                   "stand north.a south.b: later", "deposit south.b: north.c south.b",
                   "direct: north.a>south.a north.b>north.c south.a>north.c", "level north.a: 2", "level south.b: 0",
                   "rows: 2", "years north.a: -9999 9999", "years south.b: -9999 1500", "wrong: 0", "ring: none",
                   "state: fits", "since south.b 1600: ok", "state: clash", "wrong: 1", "years south.a: 1600 1500",
                   "back 3: ok", "state: fits", "undo: ok", "state: clash", "same north.a north.c: ok",
                   "state: torn", "ring: 1", "undo: ok", "ring: none", "sayings: 5")

    def test_sayings_are_put(self):
        desk = desk_of("later s.x n.a", "same s.y n.b", "since n.c 5", "by s.x -9")
        self.check(desk, "sayings: 4", "stand s.x n.c: later", "deposit n.b: n.b s.y", "years s.x: 5 -9")

    def test_back_of_each(self):
        for number in range(4):
            desk = desk_of("later s.x n.a", "same s.y n.b", "since n.c 5", "by s.x -9", f"back {number}")
            self.check(desk, "sayings: 3")
            self.assertEqual(desk.say("stand s.x n.c"), "open" if number == 0 else "later")
            self.assertEqual(desk.say("deposit n.b"), "n.b" if number == 1 else "n.b s.y")
            self.assertEqual(desk.say("years n.a"), ("5 9999", "5 -9", "-9999 -9", "5 9999")[number])

    def test_undo(self):
        desk = desk_of("later s.x n.a", "later s.y n.a")
        self.check(desk, "back 0: ok", "stand s.x n.a: open", "undo: ok", "stand s.x n.a: later", "undo: ok",
                   "stand s.y n.a: open", "undo: ok", "sayings: 0")
        self.refused(NoDeed, desk, "undo")

    def test_state(self):
        self.check(desk_of(), "state: fits", "since n.c 5: ok", "by n.a 4: ok", "state: clash", "later n.c n.a: ok",
                   "state: torn", "back 0: ok", "state: torn", "back 1: ok", "state: fits")

    def test_order(self):
        self.check(desk_of(), "order: n.c n.b n.a s.x s.y", "later n.c s.y: ok", "order: s.x s.y n.c n.b n.a",
                   "same n.c s.x: ok", "order: s.y n.c n.b n.a")
        desk = Desk()
        self.check(desk, "cut z q: ok", "order: z.q")

    def test_stand(self):
        self.check(desk_of("same s.x n.b"), "stand n.a n.c: later", "stand n.c n.a: earlier", "stand s.x n.b: one",
                   "stand n.a n.a: one", "stand s.y n.a: open", "stand s.x n.c: later", "stand n.a s.x: later")

    def test_deposit(self):
        self.check(desk_of("same s.x n.b", "same s.y s.x"), "deposit n.b: n.b s.x s.y", "deposit s.x: n.b s.x s.y",
                   "deposit s.y: n.b s.x s.y", "deposit n.a: n.a")

    def test_direct(self):
        self.check(desk_of("later n.a n.c"), "direct: n.a>n.b n.b>n.c", "later s.y s.x: ok",
                   "direct: n.a>n.b n.b>n.c s.y>s.x")
        desk = Desk()
        self.check(desk, "cut n abc: ok", "direct: none", "same n.a n.b: ok", "direct: none")

    def test_level(self):
        self.check(desk_of("same s.x n.b"), "level n.a: 2", "level n.b: 1", "level s.x: 1", "level n.c: 0", "level s.y: 0")

    def test_rows(self):
        self.check(desk_of(), "rows: 3", "later s.x n.a: ok", "rows: 2", "later s.y s.x: ok", "rows: 1")

    def test_years(self):
        self.check(desk_of("same s.x n.b", "since n.c -20", "by s.x 0"), "years n.a: -20 9999", "years s.x: -20 0",
                   "years n.b: -20 0", "years n.c: -20 0", "years s.y: -9999 9999")

    def test_wrong(self):
        self.check(desk_of(), "wrong: 0", "since n.c 9: ok", "by n.b 5: ok", "wrong: 1", "by n.a 5: ok", "wrong: 1",
                   "since n.c 8: ok", "wrong: 2")

    def test_ring(self):
        self.check(desk_of(), "ring: none", "later n.c n.a: ok", "ring: 3", "later n.b n.a: ok", "ring: 2",
                   "same n.b n.a: ok", "ring: 1")

    def test_what_is_told_with_a_ring_too(self):
        self.check(desk_of("later n.c n.a", "same s.x n.a"), "state: torn", "sayings: 2", "deposit s.x: n.a s.x", "ring: 3",
                   "since n.a 5: ok", "back 2: ok", "undo: ok")

    def test_torn(self):
        desk = desk_of("later n.c n.a")
        for row in TORN_ROWS:
            error = self.refused(Torn, desk, row)
            self.assertEqual(len(error.ring), 3)
            error.ring.clear()
            self.check(desk, "ring: 3", "sayings: 1")

    def test_layers_far_from_the_ring_are_refused_too(self):
        desk = desk_of("later n.c n.a")
        for row in ("stand s.x s.y", "stand s.x s.x", "level s.x", "years s.y"):
            self.refused(Torn, desk, row)

    def test_kinds(self):
        desk = desk_of()
        for row in ASKED + ("since n.a 5", "back 0", "undo"):
            self.assertIs(type(desk.say(row)), str, row)


class NoRows(DeskCase):
    def check_no_row(self, row):
        """NoRow ahead of all: without cuts, with cuts, with a book; and it makes no book."""
        desk = Desk()
        self.refused(NoRow, desk, row)
        self.check_has_book(desk, False)
        desk = desk_of()
        self.refused(NoRow, desk, row)
        self.check_has_book(desk, False)
        desk = desk_of("later n.c n.a")
        self.refused(NoRow, desk, row)
        self.check(desk, "sayings: 1", "ring: 3")

    def test_no_text(self):
        for thing in (None, True, False, 0, 7, 1.5, b"state", [], ["state"], (), ("state",), {}, {"state"}, object(), str):
            self.check_no_row(thing)

    def test_no_signs_and_blanks_alone(self):
        for row in ("", " ", "  ", "   "):
            self.check_no_row(row)

    def test_words_that_begin_no_row(self):
        for row in ("State", "STATE", "stat", "states", "none", "ok", "layers", "n.a", "undo.", "cuts", "cut/", "#0", "0",
                    "layer n.a", "number 0", "year n.a 5", "name text", "chain n.a n.b", "widest", "levels", "bounds"):
            self.check_no_row(row)

    def test_too_few_and_too_many_words(self):
        for form in ("cut n a", "later n.a n.b", "same n.a n.b", "since n.a 5", "by n.a 5", "back 0", "undo", "state",
                     "sayings", "order", "stand n.a n.b", "deposit n.a", "direct", "level n.a", "rows", "years n.a",
                     "wrong", "ring"):
            words = form.split(" ")
            for count in range(1, len(words)):
                self.check_no_row(" ".join(words[:count]))
            for more in ("n.a", "0", "5", "a", ""):
                self.check_no_row(form + " " + more)
            self.check_no_row(form + " n.a n.b")

    def test_blanks(self):
        for row in (" state", "state ", " state ", "state  ", "  state", " later n.a n.b", "later  n.a n.b",
                    "later n.a  n.b", "later n.a n.b ", "since n.a  5", "since n.a 5 ", "back  0", "back 0 ", "back ",
                    "since n.a ", "undo ", " undo", "order  ", "cut  n a", "cut n  a", "cut n a ", " cut n a"):
            self.check_no_row(row)

    def test_line_feeds(self):
        for row in ("\n", "state\n", "\nstate", "later\nn.a n.b", "later n.a\nn.b", "later n.a n.b\n", "deposit n.a\n",
                    "deposit \n", "cut n a\nb", "cut n a/b\n", "cut n\n a", "cut \n a", "since n.a 5\n", "back 0\n",
                    "state\nstate", "stand n.a n\n.b", "level \nn.a"):
            self.check_no_row(row)

    def test_tabs(self):
        for row in ("\t", "state\t", "\tstate", "later\tn.a\tn.b", "later n.a\tn.b", "since n.a 5\t", "since n.a \t5",
                    "back 0\t", "back\t0", "cut\tn\ta", "cut n\ta"):
            self.check_no_row(row)

    def test_years_that_are_none(self):
        for year in ("", "-", "--5", "+5", "+0", "-0", "00", "01", "-01", "-00", "007", "0000", "05", "12345", "10000",
                     "-10000", "99999", "-99999", "5.0", "1e3", "5a", "a", "five", "0x5", "1_0", "5-", "-5-", "n.a", "#0",
                     "5/", ".", "True", "None", "1,0"):
            for word in ("since", "by"):
                self.check_no_row(f"{word} n.a {year}")
                self.check_no_row(f"{word} n.q {year}")

    def test_numbers_that_are_none(self):
        for number in ("", "-", "-1", "-0", "+1", "+0", "00", "01", "0000", "0001", "12345", "10000", "1.0", "a", "one",
                       "0x0", "1_0", "1-", "#0", "n.a"):
            self.check_no_row(f"back {number}")

    def test_every_sign_of_years_and_numbers(self):
        for sign in [chr(code) for code in range(32, 127)] + ["\t"]:
            for word in (sign, "5" + sign, sign + "5"):
                for row in (f"since n.a {word}", f"by n.a {word}", f"back {word}"):
                    if ROW_FORMS.fullmatch(row) is None:
                        self.refused(NoRow, desk_of(), row)
                    elif row.startswith("back"):
                        self.refused(NoSaying, desk_of(), row)
                    else:
                        self.check(desk_of(), row + ": ok")

    def test_years_and_numbers_that_are_some(self):
        for year in ("0", "1", "5", "10", "99", "100", "999", "1000", "9999", "-1", "-5", "-10", "-100", "-9999"):
            self.check(desk_of(), f"since n.a {year}: ok", f"years n.a: {year} 9999", "undo: ok", f"by n.a {year}: ok",
                       f"years n.a: -9999 {year}")
        for number in ("0", "1", "10", "60", "100", "9999"):
            self.refused(NoSaying, desk_of(), f"back {number}")

    def test_drawn_rows(self):
        chance, seen = random.Random(5), {True: 0, False: 0}
        words = ["cut", "later", "same", "since", "by", "back", "undo", "state", "sayings", "order", "stand", "deposit",
                 "direct", "level", "rows", "years", "wrong", "ring"]
        others = ["n.a", "n.b", "s.x", "n.q", "", "", "0", "5", "-5", "-0", "05", "12345", "n", "a/b", "\t", "9999", "+1"]
        for _ in range(6000):
            row = " ".join([chance.choice(words)] + [chance.choice(others) for _ in range(chance.choice((0, 1, 1, 2, 2, 3)))])
            if chance.random() < 0.1:
                place = chance.randint(0, len(row))
                row = row[:place] + chance.choice(" \n\t/.-0s") + row[place:]
            asked = ROW_FORMS.fullmatch(row) is not None
            seen[asked] += 1
            try:
                desk_of("since n.a 5").say(row)
            except NoRow:
                self.assertFalse(asked, repr(row))
            except DigError:
                self.assertTrue(asked, repr(row))
            else:
                self.assertTrue(asked, repr(row))
        self.assertGreater(min(seen.values()), 1000)


class CutRows(DeskCase):
    def test_names_that_are_none(self):
        for name in ("", "N", "n1", "n.a", "abcdefghi", "n\t", "\t", "/", "n/s", "#0", "n-s"):
            self.refused_ground(Desk(), f"cut {name} a", "cuts", 0)
            self.refused_ground(desk_of(), f"cut {name} a", "cuts", 2)

    def test_texts_that_are_none(self):
        for text in ("", ".", "./.", "A", "1", "a/", "/a", "/", "a//b", "a/bb", "aa/b", "a/.", "ab/a.", "a\t", "\t", "a,b",
                     "a\\nb", "/".join("a" * 41), "a" * 41):
            self.refused_ground(Desk(), f"cut n {text}", "cuts", 0)
            self.refused_ground(desk_of(), f"cut w {text}", "cuts", 2)

    def test_the_same_name_again(self):
        self.refused_ground(desk_of(), "cut n a/b/c", "cuts", 2)
        self.refused_ground(desk_of(), "cut s q", "cuts", 2)

    def test_a_ninth(self):
        desk = Desk()
        for letter in ALPHABET[:8]:
            self.check(desk, f"cut {letter} a: ok")
        for row in ("cut i a", "cut a a", "cut  a", "cut i A"):
            self.refused_ground(desk, row, "cuts", 8)
        self.check(desk, "order: a.a b.a c.a d.a e.a f.a g.a h.a")

    def test_what_is_refused_is_no_cut(self):
        desk = Desk()
        self.refused_ground(desk, "cut n A", "cuts", 0)
        self.refused_ground(desk, "state", "cuts", None)
        self.check(desk, "cut n b: ok")
        self.refused_ground(desk, "cut n a", "cuts", 1)
        self.refused_ground(desk, "cut s .", "cuts", 1)
        self.check(desk, "cut s c: ok", "order: n.b s.c")

    def test_the_rows_of_a_cut(self):
        desk = Desk()
        self.check(desk, "cut n ..a/bba/ccc: ok", "direct: n.a>n.c n.b>n.c")
        desk = Desk()
        self.check(desk, "cut n ab: ok", "direct: none")
        desk = Desk()
        self.check(desk, "cut n " + "/".join(["a" * 40] * 39 + ["b" * 40]) + ": ok", "direct: n.a>n.b")

    def test_behind_the_book(self):
        for row in ASKED + ("since n.a 5",):
            desk = desk_of()
            desk.say(row)
            for cut in ("cut w a", "cut n a", "cut  a", "cut w A", "cut w ", "cut N .", "cut w " + "a" * 41):
                self.refused(NoDeed, desk, cut)
            self.refused(NoRow, desk, "cut w a b")
            self.refused(NoLayer, desk, "deposit w.a")

    def test_a_refused_cut_is_no_deed_of_the_book(self):
        desk = desk_of("since n.a 5")
        self.refused(NoDeed, desk, "cut w a")
        self.check(desk, "undo: ok", "sayings: 0")


class TheBook(DeskCase):
    def test_without_cuts_there_is_none(self):
        for row in ASKED + ("later n.a n.b", "same n.a n.a", "since n.a 5", "by q 5", "back 0", "undo", "deposit "):
            desk = Desk()
            self.refused_ground(desk, row, "cuts", None)
            self.check_has_book(desk, False)
            self.check(desk, "cut n a/b: ok", "cut s c: ok", "sayings: 0", "order: n.b n.a s.c")

    def test_the_first_other_row_makes_it(self):
        for row in ASKED + ("later s.x n.b", "same n.a s.x", "since n.a 5", "by n.a 5"):
            desk = desk_of()
            self.check_has_book(desk, False)
            desk.say(row)
            self.check_has_book(desk, True)

    def test_even_if_it_is_refused_otherwise(self):
        for row, error in (("back 0", NoSaying), ("undo", NoDeed), ("deposit n.q", NoLayer), ("later  n.a", NoLayer),
                           ("later n.a n.a", NoGround), ("same s.x s.x", NoGround), ("stand q q", NoLayer),
                           ("since q 5", NoLayer), ("years ", NoLayer), ("level q", NoLayer), ("by q 5", NoLayer)):
            desk = desk_of()
            self.refused(error, desk, row)
            self.check_has_book(desk, True)
            self.check(desk, "sayings: 0", "order: n.c n.b n.a s.x s.y")
            self.refused(NoDeed, desk, "undo")

    def test_even_if_it_is_torn(self):
        for row in ("order", "direct", "rows", "wrong", "stand n.a n.b", "level n.a", "years n.a"):
            desk = Desk()
            self.check(desk, "cut n ab/ba: ok")
            self.refused(Torn, desk, row)
            self.check_has_book(desk, True)
            self.check(desk, "ring: 2", "state: torn")

    def test_no_row_makes_none(self):
        desk = desk_of()
        for row in ("", "state ", "back -1", None, "undo\n", "later n.a"):
            self.refused(NoRow, desk, row)
        self.check_has_book(desk, False)
        self.check(desk, "cut w q: ok", "deposit w.q: w.q")

    def test_a_refused_cut_makes_none(self):
        desk = desk_of()
        self.refused_ground(desk, "cut n a", "cuts", 2)
        self.check(desk, "cut w q: ok", "rows: 4")


class Refusals(DeskCase):
    def check_layer(self, row, word):
        """NoLayer, by this word, with a ring, with sixty sayings and without."""
        for desk in (desk_of(), desk_of("later n.c n.a"), desk_of(*["since n.a 5"] * 60)):
            before = desk.say("sayings")
            error = self.refused(NoLayer, desk, row)
            self.assertTrue(str(error).endswith(" " + word), (row, str(error)))
            self.assertEqual(desk.say("sayings"), before)

    def test_no_layers(self):
        for word in ("", "n", "a", "n.", ".a", "n.q", "w.a", "n.A", "N.a", "n.a.b", "n..a", "n/a", "n.ab", "n.a\t", "\tn.a",
                     "\t", "0", "#0", "state", "s.a", "n.x", "none"):
            for row in ("deposit", "level", "years"):
                self.check_layer(f"{row} {word}", word)
            for row in ("since", "by"):
                self.check_layer(f"{row} {word} 5", word)
            for row in ("later", "same", "stand"):
                self.check_layer(f"{row} {word} n.a", word)
                self.check_layer(f"{row} n.a {word}", word)
                self.check_layer(f"{row} s.y {word}", word)

    def test_the_first_from_the_left(self):
        for row in ("later", "same", "stand"):
            self.check_layer(f"{row} n.q s.q", "n.q")
            self.check_layer(f"{row} s.q n.q", "s.q")
            self.check_layer(f"{row}  n.q", "")
            self.check_layer(f"{row} q q", "q")
            self.check_layer(f"{row} n.q ", "n.q")

    def test_one_and_the_same_layer_twice(self):
        for row in ("later n.a n.a", "same n.a n.a", "later s.x s.x"):
            self.refused_ground(desk_of(), row, "sayings", 0)
            self.refused_ground(desk_of("since n.a 5", "by n.a 7"), row, "sayings", 2)

    def test_layers_of_one_deposit_may_be_said_of(self):
        self.check(desk_of("same n.a s.x"), "same n.a s.x: ok", "later n.a s.x: ok", "ring: 1")

    def test_a_sixty_first_saying(self):
        desk = desk_of(*["since n.a 5"] * 60)
        for row in ("later s.x s.y", "same s.x s.y", "since n.a 5", "by n.a 5", "later n.a n.a"):
            self.refused_ground(desk, row, "sayings", 60)
        self.check(desk, "sayings: 60", "back 59: ok", "by n.a 6: ok", "sayings: 60")

    def test_no_saying(self):
        for count in (0, 1, 2):
            desk = desk_of(*["since n.a 5"] * count)
            for number in (count, count + 1, 60, 9999):
                self.refused(NoSaying, desk, f"back {number}")
            self.assertEqual(desk.say("sayings"), str(count))

    def test_no_deed(self):
        desk = desk_of()
        self.refused(NoDeed, desk, "undo")
        self.check(desk, "since n.a 5: ok", "undo: ok")
        self.refused(NoDeed, desk, "undo")

    def test_no_row_goes_ahead_of_no_ground_and_no_layer(self):
        for row in ("since q x", "stand q", "deposit q q", "back -1", "by  05"):
            self.refused(NoRow, Desk(), row)
            self.refused(NoRow, desk_of(), row)

    def test_no_ground_goes_ahead_of_no_layer(self):
        for row in ("since q 5", "stand q q", "deposit q", "later n.a n.a", "back 5", "undo"):
            self.refused_ground(Desk(), row, "cuts", None)

    def test_no_layer_goes_ahead_of_torn_and_of_no_ground_of_sayings(self):
        self.refused(NoLayer, desk_of("later n.c n.a"), "stand n.a q")
        self.refused(NoLayer, desk_of(*["since n.a 5"] * 60), "later n.a q")
        self.refused(NoLayer, desk_of(), "later q q")

    def test_what_is_refused_changes_nothing(self):
        desk = desk_of("since n.a 5", "by n.a 9")
        before = [desk.say(row) for row in ASKED]
        for row in ("later n.a n.a", "since n.q 5", "back 2", "cut w a", "state ", "", None, "stand q q", "years q"):
            self.assertRaises(DigError, desk.say, row)
            self.assertEqual([desk.say(row) for row in ASKED], before)
        self.check(desk, "undo: ok", "undo: ok")
        self.refused(NoDeed, desk, "undo")


class Apart(DeskCase):
    def test_two_desks(self):
        one, other = desk_of(), Desk()
        self.refused_ground(other, "state", "cuts", None)
        self.check(one, "later s.x n.a: ok", "sayings: 1")
        self.check(other, "cut n c/b/a: ok", "sayings: 0", "order: n.a n.b n.c")
        self.check(one, "order: n.c n.b n.a s.x s.y", "undo: ok")
        self.refused(NoDeed, other, "undo")
        self.check(other, "since n.a 5: ok")
        self.check(one, "sayings: 0", "years n.a: -9999 9999")

    def test_other_grounds_and_books_in_between(self):
        desk = desk_of("later s.x n.a")
        before = [desk.say(row) for row in ASKED]
        book = Book(Ground([("n", "a\nb\nc"), ("s", "xy")], []))
        book.put(("later", "n.c", "n.a"))
        self.assertEqual(book.state(), "torn")
        self.assertEqual([desk.say(row) for row in ASKED], before)

    def test_asking_changes_nothing(self):
        desk = desk_of("since n.b 5", "by n.a 4", "same s.x n.c")
        before = [desk.say(row) for row in ASKED]
        for row in ASKED * 2:
            desk.say(row)
        self.assertEqual([desk.say(row) for row in ASKED], before)


def rows_for(ground):
    """The rows that tell a desk this ground."""
    rows = [f"cut {name} {text}".replace("\n", "/") for name, text in ground.cuts()]
    return rows + [" ".join(str(part) for part in saying) for saying in ground.sayings()]


class AsTheStagesTell(DeskCase):
    def answers(self, ground, layers):
        """Each row with what the stages tell of it, or Torn."""
        yield "state", lambda: Book(ground).state()
        yield "sayings", lambda: len(ground.sayings())
        yield "order", lambda: " ".join(order(ground))
        yield "direct", lambda: " ".join(later + ">" + earlier for later, earlier in direct_pairs(ground)) or "none"
        yield "rows", lambda: len(fewest_rows(ground))
        yield "wrong", lambda: len(fewest_wrong(ground)[0])
        yield "ring", lambda: "none" if ring(ground) is None else len(ring(ground))
        for layer in layers:
            name = deposit_of(ground, layer)
            yield f"deposit {layer}", lambda: " ".join(dict((some[0], some) for some in deposits(ground))[name])
            yield f"level {layer}", lambda: levels(ground)[name]
            yield f"years {layer}", lambda: "{} {}".format(*bounds(ground)[name])
        for one, other in itertools.product(layers, repeat=2):
            yield f"stand {one} {other}", lambda: standing(ground, one, other)

    def check_all(self, desk, ground, layers):
        for row, tell in self.answers(ground, layers):
            try:
                asked = str(tell())
            except Torn:
                self.refused(Torn, desk, row)
            else:
                self.assertEqual(desk.say(row), asked, row)

    def test_drawn_grounds(self):
        for ground in dated_grounds(25):
            desk = Desk()
            for row in rows_for(ground):
                self.assertEqual(desk.say(row), "ok")
            self.check_all(desk, ground, ground.layers()[::2])

    def test_a_desk_as_it_goes(self):
        chance = random.Random(3)
        for ground in dated_grounds(8):
            desk, book = Desk(), Book(Ground(ground.cuts(), []))
            for row in rows_for(Ground(ground.cuts(), [])):
                desk.say(row)
            for saying in ground.sayings():
                self.check(desk, " ".join(str(part) for part in saying) + ": ok")
                book.put(saying)
                if chance.random() < 0.4:
                    number = chance.randrange(len(book.ground().sayings()))
                    self.check(desk, f"back {number}: ok")
                    book.take_back(number)
                elif chance.random() < 0.3:
                    self.check(desk, "undo: ok")
                    book.undo()
                self.check_all(desk, book.ground(), book.ground().layers()[:2])

    def test_the_greatest(self):
        for ground in (greatest_ground(0), with_years(greatest_ground(1, 30), 1, 30), greatest_ground(2, 57, 3)):
            desk = Desk()
            for row in rows_for(ground):
                self.assertEqual(desk.say(row), "ok")
            self.check_all(desk, ground, ground.layers()[::60])


if __name__ == "__main__":
    unittest.main()
