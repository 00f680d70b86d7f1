"""Point 3, the promise over the whole program: (a) to (h) of the same drawn grounds, against plain readings."""

import itertools
import unittest

from asking import all_told
from digbook.book import Book
from digbook.chains import chain, standing
from digbook.cuts import turned, wider
from digbook.direct import direct_pairs
from digbook.errors import Torn
from digbook.ground import Ground
from digbook.opens import two_orders
from digbook.orders import order
from digbook.rings import ring
from digbook.rows import fewest_rows, widest
from digbook.wrong import fewest_wrong
from digbook.years import bounds, clash
from drawings import broad_ground, dated_grounds, free_ground, is_right_above, letters_drawn, with_years, without
from readings import (ReadingCase, do_fit, fewest_left_out, fewest_links, fewest_of_a_ring, fewest_rows_tried, leads_to,
                      plain_groups, plain_names, untorn, widest_tried)

GROUNDS = dated_grounds(30) + [with_years(free_ground(seed), seed, 6, 1, 5) for seed in range(100, 160)]
UNTORN = untorn(GROUNDS)
SMALL = [ground for ground in UNTORN if len(plain_groups(ground)) <= 8]


class Promise(ReadingCase):
    def test_grounds_of_all_kinds(self):
        states = [Book(ground).state() for ground in GROUNDS]
        self.assertGreater(min(states.count(state) for state in ("torn", "clash", "fits")), 20)
        self.assertGreater(len(SMALL), 50)

    def test_a_each_tie_of_a_cut_is_met_in_its_drawing(self):
        for ground in GROUNDS:
            ties = set(ground.ties())
            for name, text in ground.cuts():
                for upper, lower in itertools.permutations(letters_drawn(text), 2):
                    tie = (f"{name}.{upper}", f"{name}.{lower}", name)
                    self.assertIs(tie in ties, is_right_above(text, upper, lower), tie)

    def test_b_an_order_or_a_ring_none_shorter(self):
        for ground in GROUNDS:
            count = fewest_of_a_ring(ground)
            if count is None:
                self.assertIsNone(ring(ground))
                self.check_order(ground, order(ground))
            else:
                self.check_ring(ground, ring(ground), count)
                self.assertRaises(Torn, order, ground)

    def test_c_one_or_later_by_a_shortest_chain_or_open_with_two_orders(self):
        for ground in UNTORN[::2]:
            names, counts = plain_names(ground), fewest_links(ground)
            for one, other in itertools.product(ground.layers(), repeat=2):
                told = standing(ground, one, other)
                if told == "one":
                    self.assertEqual(names[one], names[other])
                elif told == "later":
                    self.check_chain(ground, chain(ground, one, other), one, other, counts[names[one], names[other]])
                elif told == "earlier":
                    self.check_chain(ground, chain(ground, other, one), other, one, counts[names[other], names[one]])
                else:
                    self.assertEqual(told, "open")
                    ahead, behind = two_orders(ground, one, other)
                    for some in (ahead, behind):
                        self.check_order(ground, some)
                    self.assertLess(ahead.index(names[one]), ahead.index(names[other]))
                    self.assertGreater(behind.index(names[one]), behind.index(names[other]))

    def test_d_from_the_direct_pairs_all_else_follows_and_none_can_be_left_out(self):
        for ground in UNTORN:
            told, later = direct_pairs(ground), set(fewest_links(ground))
            self.assertEqual(leads_to(told), later)
            for pair in told:
                self.assertNotIn(pair, leads_to([other for other in told if other != pair]))

    def test_e_the_widest_set_is_as_great_as_the_fewest_rows(self):
        for ground in SMALL:
            count = fewest_rows_tried(ground)
            self.assertEqual(widest_tried(ground), count)
            self.check_rows(ground, fewest_rows(ground), count)
            self.check_widest(ground, widest(ground), count)

    def test_f_the_least_and_the_greatest_years_that_fit_or_two_that_clash(self):
        for ground in UNTORN:
            told, found = bounds(ground), clash(ground)
            self.check_clash(ground, found)
            for place in (0, 1):
                self.assertIs(do_fit(ground, {name: pair[place] for name, pair in told.items()}), found is None)
            if found is None:
                self.check_no_year_beyond(ground, told)

    def check_no_year_beyond(self, ground, told):
        """A saying of one year beyond a bound clashes, one of the bound itself does not."""
        for name, (least, greatest) in told.items():
            for word, year, more in (("by", least, -1), ("since", greatest, 1)):
                self.assertIsNone(clash(Ground(ground.cuts(), ground.sayings() + [(word, name, year)])))
                if abs(year) < 9999:
                    beyond = Ground(ground.cuts(), ground.sayings() + [(word, name, year + more)])
                    self.assertIsNotNone(clash(beyond))

    def test_g_the_fewest_sayings_that_must_be_wrong(self):
        for ground in UNTORN:
            told = fewest_wrong(ground)
            self.check_wrong(ground, told)
            self.assertEqual(len(told[0]), fewest_left_out(ground))
            right = without(ground, told[0])
            self.assertTrue(do_fit(right, {name: pair[0] for name, pair in bounds(right).items()}))

    def test_h_a_saying_that_was_taken_back_has_never_been(self):
        for ground in GROUNDS[::3]:
            for number in range(0, len(ground.sayings()), 2):
                book = Book(without(ground, [number]))
                before, state = all_told(book.ground()), book.state()
                book.put(ground.sayings()[number])
                book.take_back(len(ground.sayings()) - 1)
                self.assertEqual((all_told(book.ground()), book.state()), (before, state))
                book = Book(ground)
                book.take_back(number)
                self.assertEqual((all_told(book.ground()), book.state()), (before, state))

    def test_a_cut_turned_about_or_drawn_wider_tells_the_same(self):
        for ground in GROUNDS[::4] + [broad_ground(seed) for seed in range(8)]:
            told = all_told(ground)
            for change in (turned, lambda text: wider(text, 2), lambda text: wider(turned(text), 3)):
                other = Ground([(name, change(text)) for name, text in ground.cuts()], ground.sayings())
                self.assertEqual(other.ties(), ground.ties())
                self.assertEqual(all_told(other), told)


if __name__ == "__main__":
    unittest.main()
