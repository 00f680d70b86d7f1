"""The interface of digbook.errors."""

import unittest

from digbook import errors
from digbook.errors import DigError, NoCut, NoDeed, NoGround, NoLayer, NoRow, NoSaying, Torn

REFUSALS = (NoCut, NoGround, Torn, NoSaying, NoDeed, NoRow, NoLayer)
LINK = ("north.a", "north.b", "north")


class ErrorClasses(unittest.TestCase):
    def test_dig_error_stands_under_value_error(self):
        self.assertTrue(issubclass(DigError, ValueError))

    def test_each_refusal_stands_right_under_dig_error(self):
        for refusal in REFUSALS:
            self.assertEqual(refusal.__bases__, (DigError,), refusal)

    def test_none_stands_under_another_one(self):
        for one in REFUSALS:
            for other in REFUSALS:
                self.assertEqual(issubclass(one, other), one == other, (one, other))

    def test_their_names(self):
        for refusal in REFUSALS + (DigError,):
            self.assertIs(getattr(errors, refusal.__name__), refusal)


class ErrorsMadeByHand(unittest.TestCase):
    def test_no_cut_has_its_row(self):
        for row in (0, 7, 40):
            self.assertEqual(NoCut(row).row, row)

    def test_no_ground_has_part_and_number(self):
        for part, number in (("cuts", None), ("cuts", 8), ("sayings", 0), ("sayings", 60)):
            error = NoGround(part, number)
            self.assertEqual((error.part, error.number), (part, number))

    def test_torn_has_its_ring(self):
        self.assertEqual(Torn([LINK]).ring, [LINK])

    def test_torn_keeps_no_list_that_is_handed_in(self):
        ring = [LINK]
        error = Torn(ring)
        ring.append(LINK)
        self.assertEqual(error.ring, [LINK])
        error.ring.clear()
        self.assertEqual(ring, [LINK, LINK])

    def test_the_others_are_made_of_a_text(self):
        for refusal in (DigError, NoSaying, NoDeed, NoRow, NoLayer):
            self.assertIn("why so", str(refusal("why so")))

    def test_fields_are_the_objects_own(self):
        one, other = NoCut(1), NoCut(2)
        self.assertEqual((one.row, other.row), (1, 2))

    def test_each_is_raised_and_taken(self):
        made = (NoCut(1), NoGround("cuts", 1), Torn([LINK]), NoSaying("s"), NoDeed("d"), NoRow("r"), NoLayer("l"))
        for error in made:
            with self.assertRaises(DigError) as taken:
                raise error
            self.assertIs(taken.exception, error)


if __name__ == "__main__":
    unittest.main()
