"""Point 20: the running book; of 3 what speaks of it: (h)."""

import random
import unittest
from fractions import Fraction

from asking import all_told, own_things, parts_of, spoil
from digbook.book import Book
from digbook.errors import DigError, NoDeed, NoGround, NoSaying
from digbook.ground import Ground
from drawings import dated_grounds, free_ground, greatest_ground, with_years
from readings import fewest_of_a_ring, plain_clashes

CUTS = [("n", "a\nb\nc"), ("s", "xy")]
LATER = ("later", "s.x", "n.a")
SAME = ("same", "s.y", "n.b")
SINCE = ("since", "n.c", 5)
BY = ("by", "s.x", 9)
FOUR = [LATER, SAME, SINCE, BY]
NO_SAYINGS = (None, True, 0, 7, 1.5, "", "later", b"later", [], {}, {"later"}, (), ("later",), ("later", "n.a"),
              ("later", "n.a", "n.a"), ("later", "n.a", "n.d"), ("later", "w.a", "n.a"), ("same", "n.b", "n.b"),
              ("later", "n.a", "n.b", "n.c"), ["later", "n.a", "n.b"], ("Later", "n.a", "n.b"), ("since", "n.a", "5"),
              ("since", "n.a", True), ("by", "n.a", 10000), ("by", "n.a", -10000), ("by", "n.q", 5), ("by", "n.a", 1.0),
              (None, "n.a", 5), ("since", None, 5), ("since", "n.a", None), ("by", "n.a", 10 ** 5000), object(), tuple)
NO_NUMBERS = (-1, -2, -4, -5, 4, 5, 60, 10 ** 5000, -10 ** 5000, True, False, None, "", "0", "1", b"0", 0.0, 1.0, 1.5,
              Fraction(0), Fraction(1, 2), [], [0], (), (0,), {}, {0}, {0: 0}, object(), int)


def book_of(*sayings):
    return Book(Ground(CUTS, list(sayings)))


class BookCase(unittest.TestCase):
    def check_sayings(self, book, *sayings):
        self.assertEqual(own_things(book.ground()), own_things(Ground(book.ground().cuts(), list(sayings))))

    def check_refused(self, book, error, deed, *things):
        """Refused, and nothing is changed; what can be undone either."""
        before = own_things(book.ground())
        with self.assertRaises(error) as taken:
            deed(*things)
        self.assertIs(type(taken.exception), error)
        self.assertEqual(own_things(book.ground()), before)
        return taken.exception


class Put(BookCase):
    def test_behind_the_others(self):
        book = book_of()
        for count in range(4):
            self.assertIsNone(book.put(FOUR[count]))
            self.check_sayings(book, *FOUR[:count + 1])

    def test_behind_those_of_the_ground_it_begins_with(self):
        book = book_of(BY, SAME)
        book.put(LATER)
        self.check_sayings(book, BY, SAME, LATER)

    def test_the_same_saying_twice(self):
        book = book_of(SINCE)
        book.put(SINCE)
        self.check_sayings(book, SINCE, SINCE)

    def test_its_number_is_that_of_its_place(self):
        book = book_of(SINCE, BY)
        book.put(LATER)
        self.assertIn(("s.x", "n.a", "#2"), book.ground().ties())

    def test_what_is_none(self):
        for count in range(5):
            book = book_of(*FOUR[:count])
            for thing in NO_SAYINGS:
                error = self.check_refused(book, NoGround, book.put, thing)
                self.assertEqual((error.part, error.number), ("sayings", count))
            self.check_refused(book, NoDeed, book.undo)

    def test_behind_sixty(self):
        book = book_of(*[SINCE] * 59)
        book.put(BY)
        for thing in FOUR + list(NO_SAYINGS):
            error = self.check_refused(book, NoGround, book.put, thing)
            self.assertEqual((error.part, error.number), ("sayings", 60))
        book.take_back(0)
        book.put(LATER)
        self.check_sayings(book, *[SINCE] * 58, BY, LATER)

    def test_a_saying_that_makes_a_ring_or_clashes_is_put(self):
        book = book_of()
        for saying in (("later", "n.c", "n.a"), ("same", "n.a", "n.b"), ("since", "s.x", 5), ("by", "s.x", 4)):
            book.put(saying)
        self.assertEqual(len(book.ground().sayings()), 4)


class TakeBack(BookCase):
    def test_each_of_them(self):
        for number in range(4):
            book = book_of(*FOUR)
            self.assertIsNone(book.take_back(number))
            self.check_sayings(book, *FOUR[:number], *FOUR[number + 1:])

    def test_one_of_those_put(self):
        for number in range(4):
            book = book_of(*FOUR[:2])
            book.put(SINCE)
            book.put(BY)
            book.take_back(number)
            self.check_sayings(book, *FOUR[:number], *FOUR[number + 1:])

    def test_those_behind_get_numbers_less_by_one(self):
        book = book_of(SINCE, LATER, BY, ("later", "s.y", "n.b"))
        book.take_back(0)
        self.assertEqual([tie for tie in book.ground().ties() if "#" in tie[2]],
                         [("s.x", "n.a", "#0"), ("s.y", "n.b", "#2")])
        book.take_back(1)
        self.assertEqual([tie for tie in book.ground().ties() if "#" in tie[2]],
                         [("s.x", "n.a", "#0"), ("s.y", "n.b", "#1")])

    def test_one_of_several_alike(self):
        book = book_of(SINCE, BY, SINCE, SINCE)
        book.take_back(2)
        self.check_sayings(book, SINCE, BY, SINCE)

    def test_all_of_them(self):
        book = book_of(*FOUR)
        for number, left in ((1, [LATER, SINCE, BY]), (2, [LATER, SINCE]), (0, [SINCE]), (0, [])):
            book.take_back(number)
            self.check_sayings(book, *left)
        self.check_refused(book, NoSaying, book.take_back, 0)

    def test_what_is_no_number(self):
        book = book_of(*FOUR)
        for thing in NO_NUMBERS:
            self.check_refused(book, NoSaying, book.take_back, thing)
        self.check_refused(book, NoDeed, book.undo)

    def test_without_sayings_every_number_is_none(self):
        book = book_of()
        for thing in (0, 1) + NO_NUMBERS:
            self.check_refused(book, NoSaying, book.take_back, thing)

    def test_the_last_of_sixty(self):
        book = book_of(*[SINCE] * 59, BY)
        self.check_refused(book, NoSaying, book.take_back, 60)
        book.take_back(59)
        self.check_sayings(book, *[SINCE] * 59)

    def test_a_saying_taken_back_has_never_been(self):
        for ground in dated_grounds(15):
            for number in range(0, len(ground.sayings()), 3):
                book = Book(ground)
                book.take_back(number)
                said = ground.sayings()
                del said[number]
                other = Ground(ground.cuts(), said)
                self.assertEqual(all_told(book.ground()), all_told(other))
                self.assertEqual(book.state(), Book(other).state())


class Undo(BookCase):
    def test_a_put(self):
        for count in range(4):
            book = book_of(*FOUR[:count])
            book.put(FOUR[count])
            self.assertIsNone(book.undo())
            self.check_sayings(book, *FOUR[:count])

    def test_a_taking_back_at_its_old_place(self):
        for number in range(4):
            book = book_of(*FOUR)
            book.take_back(number)
            book.undo()
            self.check_sayings(book, *FOUR)

    def test_several_one_behind_the_other(self):
        book = book_of(*FOUR[:2])
        book.put(SINCE)
        book.take_back(0)
        book.put(BY)
        book.take_back(1)
        self.check_sayings(book, SAME, BY)
        for left in ((SAME, SINCE, BY), (SAME, SINCE), (LATER, SAME, SINCE), (LATER, SAME)):
            book.undo()
            self.check_sayings(book, *left)
        self.check_refused(book, NoDeed, book.undo)

    def test_none_is_left(self):
        for book in (book_of(), book_of(*FOUR)):
            self.check_refused(book, NoDeed, book.undo)
            book.put(SINCE)
            book.undo()
            self.check_refused(book, NoDeed, book.undo)
            self.check_refused(book, NoDeed, book.undo)

    def test_an_undoing_is_no_deed_to_undo(self):
        book = book_of()
        book.put(LATER)
        book.put(SAME)
        book.undo()
        book.undo()
        self.check_sayings(book)

    def test_deeds_behind_an_undoing(self):
        book = book_of()
        book.put(LATER)
        book.put(SAME)
        book.undo()
        book.put(BY)
        self.check_sayings(book, LATER, BY)
        book.undo()
        self.check_sayings(book, LATER)
        book.undo()
        self.check_sayings(book)
        self.check_refused(book, NoDeed, book.undo)

    def test_what_was_refused_is_no_deed(self):
        book = book_of(LATER)
        book.put(SAME)
        self.check_refused(book, NoGround, book.put, None)
        self.check_refused(book, NoSaying, book.take_back, 2)
        book.undo()
        self.check_sayings(book, LATER)
        self.check_refused(book, NoDeed, book.undo)

    def test_many_deeds(self):
        book, kept = book_of(*[SINCE] * 30), []
        for count in range(300):
            kept.append(book.ground().sayings())
            if count % 3 == 0 or len(kept[-1]) == 60:
                book.take_back(count % len(kept[-1]))
            else:
                book.put(FOUR[count % 4])
        for sayings in reversed(kept):
            book.undo()
            self.assertEqual(book.ground().sayings(), sayings)
        self.check_refused(book, NoDeed, book.undo)


class State(BookCase):
    def test_fits(self):
        self.assertEqual(book_of().state(), "fits")
        self.assertEqual(book_of(*FOUR).state(), "fits")
        self.assertEqual(book_of(("since", "n.c", 5), ("by", "n.a", 5)).state(), "fits")

    def test_clash(self):
        self.assertEqual(book_of(("since", "n.c", 6), ("by", "n.a", 5)).state(), "clash")
        self.assertEqual(book_of(("since", "s.x", 6), ("by", "s.x", 5)).state(), "clash")

    def test_torn(self):
        self.assertEqual(book_of(("later", "n.c", "n.a")).state(), "torn")
        self.assertEqual(book_of(("same", "n.b", "n.a")).state(), "torn")

    def test_torn_goes_ahead_of_clash(self):
        self.assertEqual(book_of(("since", "n.c", 6), ("by", "n.a", 5), ("later", "n.c", "n.a")).state(), "torn")
        self.assertEqual(book_of(("same", "n.c", "n.a"), ("since", "s.x", 6), ("by", "s.x", 5)).state(), "torn")

    def test_as_it_goes(self):
        book = book_of()
        deeds = (lambda: book.put(("since", "n.b", 9)), lambda: book.put(("by", "s.x", 4)), lambda: book.put(LATER),
                 lambda: book.put(("later", "n.c", "s.x")), lambda: book.take_back(1), lambda: book.take_back(1),
                 book.undo, book.undo, book.undo, book.undo, book.undo)
        told = []
        for deed in deeds:
            deed()
            told.append(book.state())
        self.assertEqual(told, ["fits", "fits", "clash", "torn", "torn", "fits", "torn", "torn", "clash", "fits", "fits"])

    def test_as_read_plainly(self):
        seen = set()
        for ground in dated_grounds(60):
            asked = "fits"
            if fewest_of_a_ring(ground) is not None:
                asked = "torn"
            elif plain_clashes(ground):
                asked = "clash"
            seen.add(asked)
            self.assertEqual(Book(ground).state(), asked)
        self.assertEqual(seen, {"fits", "clash", "torn"})


class Apart(BookCase):
    def test_a_told_ground_stays_as_it_was(self):
        book, kept = book_of(LATER), []
        for deed, thing in ((book.put, SAME), (book.put, BY), (book.take_back, 0), (book.put, SINCE)):
            kept.append((book.ground(), own_things(book.ground()), all_told(book.ground())))
            deed(thing)
        book.undo()
        for ground, own, told in kept:
            self.assertEqual((own_things(ground), all_told(ground)), (own, told))

    def test_the_ground_handed_in_stays_as_it_was(self):
        ground = Ground(CUTS, FOUR)
        before = own_things(ground)
        book = Book(ground)
        book.put(SINCE)
        book.take_back(0)
        book.undo()
        self.assertEqual(own_things(ground), before)

    def test_two_books_of_one_ground(self):
        ground = Ground(CUTS, [LATER])
        one, other = Book(ground), Book(ground)
        one.put(SAME)
        self.check_sayings(other, LATER)
        self.check_refused(other, NoDeed, other.undo)
        other.take_back(0)
        self.check_sayings(one, LATER, SAME)
        one.undo()
        self.check_sayings(other)
        self.check_sayings(one, LATER)
        self.check_refused(one, NoDeed, one.undo)
        other.undo()
        self.check_sayings(other, LATER)

    def test_a_book_of_a_books_ground(self):
        one = book_of(LATER)
        one.put(SAME)
        other = Book(one.ground())
        self.check_refused(other, NoDeed, other.undo)
        other.put(BY)
        one.undo()
        self.check_sayings(one, LATER)
        self.check_sayings(other, LATER, SAME, BY)

    def test_told_lists_changed(self):
        book = book_of(*FOUR[:3])
        book.put(BY)
        for things in (own_things, all_told):
            for part in parts_of(things(book.ground())):
                spoil(part)
                part.clear()
        self.check_sayings(book, *FOUR)
        book.undo()
        self.check_sayings(book, *FOUR[:3])

    def test_lists_handed_in_changed(self):
        cuts, sayings = list(CUTS), list(FOUR)
        book = Book(Ground(cuts, sayings))
        cuts.clear()
        sayings.clear()
        book.put(SINCE)
        self.check_sayings(book, *FOUR, SINCE)
        book.undo()
        self.check_sayings(book, *FOUR)

    def test_kinds(self):
        book = book_of()
        self.assertIs(type(book.ground()), Ground)
        self.assertIs(type(book.state()), str)


class Drawn(BookCase):
    def deed_of(self, chance, ground):
        """A deed by its name and what it is asked with; some are none."""
        word = chance.choice(("put", "put", "put", "take_back", "take_back", "undo"))
        if word == "put":
            sayings = with_years(ground, chance.random(), 2, -5, 5).sayings() if len(ground.sayings()) < 58 else []
            return word, [chance.choice(sayings + [chance.choice(NO_SAYINGS)])]
        if word == "take_back":
            return word, [chance.choice((-1, None, "0", *range(len(ground.sayings()) + 2)))]
        return word, []

    def test_against_a_plain_book(self):
        refused = set()
        for seed in range(40):
            chance = random.Random(seed)
            book, pages = Book(free_ground(seed)), [free_ground(seed).sayings()]
            cuts = free_ground(seed).cuts()
            for _ in range(25):
                word, things = self.deed_of(chance, Ground(cuts, pages[-1]))
                try:
                    getattr(book, word)(*things)
                except DigError as error:
                    refused.add(type(error))
                    self.assertTrue(self.is_right(type(error), cuts, pages, things), (word, things))
                else:
                    self.turn_page(pages, word, things)
                self.assertEqual(book.ground().sayings(), pages[-1])
                self.assertEqual(book.ground().cuts(), cuts)
        self.assertEqual(refused, {NoGround, NoSaying, NoDeed})

    def is_right(self, error, cuts, pages, things):
        if error is NoDeed:
            return len(pages) == 1
        if error is NoSaying:
            return things[0] not in list(range(len(pages[-1])))
        try:
            Ground(cuts, pages[-1] + things)
        except NoGround as other:
            return (other.part, other.number) == ("sayings", len(pages[-1]))
        return False

    def turn_page(self, pages, word, things):
        if word == "undo":
            pages.pop()
        elif word == "put":
            pages.append(pages[-1] + things)
        else:
            pages.append([saying for number, saying in enumerate(pages[-1]) if number != things[0]])

    def test_the_greatest(self):
        ground = greatest_ground(0, 59)
        book = Book(ground)
        book.put(("since", ground.layers()[0], 5))
        self.assertRaises(NoGround, book.put, ("since", ground.layers()[0], 5))
        self.assertEqual(book.state(), "fits")
        for number in range(59, -1, -1):
            book.take_back(number // 2)
        self.assertEqual(book.ground().sayings(), [])
        self.assertEqual(book.state(), "fits")
        for _ in range(61):
            book.undo()
        self.assertEqual(own_things(book.ground()), own_things(ground))


if __name__ == "__main__":
    unittest.main()
