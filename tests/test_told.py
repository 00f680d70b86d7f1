"""Points 1 and 2 for all that is told of a ground."""

import itertools
import os
import subprocess
import sys
import unittest

from asking import AHEAD, BEHIND, OF_ONE, OF_TWO, all_told, own_things, parts_of, questions, spoil
from digbook.chains import chain
from digbook.deposits import deposits, links
from digbook.direct import direct_pairs, levels
from digbook.ground import Ground
from digbook.opens import two_orders
from digbook.orders import is_order, order
from digbook.rows import fewest_rows, widest
from digbook.wrong import fewest_wrong
from digbook.years import bounds, clash, why_greatest, why_least
from drawings import dated_grounds

HERE = os.path.dirname(os.path.abspath(__file__))

CUTS = [("n", "a\nb\nc"), ("s", "x\ny"), ("w", "pq")]
SAYINGS = [("same", "s.y", "n.b"), ("later", "w.p", "s.x"), ("since", "n.c", 4), ("later", "n.c", "w.q"),
           ("by", "w.p", 3), ("by", "n.b", 3), ("since", "w.p", 5)]


def whole():
    return Ground(list(CUTS), list(SAYINGS))


def torn():
    return Ground(list(CUTS), SAYINGS + [("later", "n.c", "w.p")])


class NothingKeptNothingChanged(unittest.TestCase):
    def test_each_kind_is_asked_for(self):
        kinds = {}
        for asked, told in zip(questions(whole()), all_told(whole())):
            kinds.setdefault(asked[0], set()).add(type(told))
        self.assertEqual(set(kinds), set(AHEAD + BEHIND + OF_ONE + OF_TWO + (is_order,)))
        for tell in (deposits, links, order, direct_pairs, fewest_rows, widest, chain):
            self.assertIn(list, kinds[tell])
        for tell in (two_orders, clash, fewest_wrong, why_least, why_greatest):
            self.assertIn(tuple, kinds[tell])
        for tell in (levels, bounds):
            self.assertIn(dict, kinds[tell])

    def test_told_lists_changed(self):
        for make in (whole, torn):
            ground, before = make(), all_told(make())
            for told in all_told(ground):
                spoil(told)
                self.assertEqual(all_told(ground), before)
            for part in parts_of(all_told(ground)):
                part.clear()
            self.assertEqual(all_told(ground), before)

    def test_told_lists_are_not_changed_by_asking_again(self):
        for make in (whole, torn):
            ground = make()
            first, before = all_told(ground), all_told(make())
            for told in all_told(ground):
                spoil(told)
            all_told(Ground([("n", "b\na\nc"), ("s", "y\nx")], [("same", "n.a", "s.x")]))
            self.assertEqual(first, before)

    def test_no_list_is_told_twice(self):
        for make in (whole, torn):
            ground = make()
            told = parts_of([all_told(ground), all_told(ground), own_things(ground)])
            self.assertEqual(len({id(part) for part in told}), len(told))

    def test_another_ground_asked_in_between(self):
        grounds = [whole(), torn(), Ground(CUTS, []), Ground([("n", "c\nb\na"), ("s", "y\nx"), ("w", "qp")], SAYINGS)]
        before = [all_told(ground) for ground in grounds]
        for one, other in itertools.permutations(range(len(grounds)), 2):
            self.assertEqual(all_told(grounds[one]), before[one])
            self.assertEqual(all_told(grounds[other]), before[other])
            self.assertEqual(all_told(grounds[one]), before[one])

    def test_grounds_made_and_forgotten_in_turn(self):
        asked = [all_told(ground) for ground in dated_grounds(25)]
        for told, ground in reversed(list(zip(asked, dated_grounds(25)))):
            self.assertEqual(all_told(ground), told)

    def test_the_grounds_own_things_stay(self):
        for make in (whole, torn):
            ground, before = make(), own_things(make())
            for told in all_told(ground):
                spoil(told)
            all_told(ground)
            self.assertEqual(own_things(ground), before)

    def test_the_grounds_own_things_stay_in_drawn_ones(self):
        for ground, other in zip(dated_grounds(25), dated_grounds(25)):
            for told in all_told(ground):
                spoil(told)
            self.assertEqual(own_things(ground), own_things(other))

    def test_each_ground_of_the_same_things_is_told_the_same(self):
        cuts, sayings = list(CUTS), list(SAYINGS)
        one, other = Ground(cuts, sayings), Ground(cuts, sayings)
        for told in all_told(one):
            spoil(told)
        cuts.clear()
        sayings.clear()
        self.assertEqual(all_told(one), all_told(other))
        self.assertEqual(all_told(one), all_told(whole()))


class NothingByChance(unittest.TestCase):
    def test_the_same_whatever_python_hashes_by(self):
        code = ("from asking import all_told\n"
                "from drawings import dated_grounds\n"
                "for ground in dated_grounds(12):\n"
                "    print(all_told(ground))\n")
        answers = []
        for number in ("0", "1", "2"):
            told = subprocess.run([sys.executable, "-c", code], capture_output=True, text=True, check=True,
                                  cwd=HERE, env={**os.environ, "PYTHONHASHSEED": number,
                                                 "PYTHONPATH": os.path.dirname(HERE), "PYTHONDONTWRITEBYTECODE": "1"})
            answers.append(told.stdout)
        self.assertEqual(len(answers[0].splitlines()), 36)
        self.assertEqual(len(set(answers)), 1)


if __name__ == "__main__":
    unittest.main()
