"""Points 1 and 2 for all that is told of a ground, and its interface."""

import inspect
import itertools
import os
import subprocess
import sys
import unittest

from digbook.chains import chain, standing
from digbook.deposits import deposit_of, deposits, links
from digbook.direct import direct_pairs, levels
from digbook.errors import Torn
from digbook.ground import Ground
from digbook.opens import two_orders
from digbook.orders import is_order, order
from digbook.rings import ring
from digbook.rows import fewest_rows, widest
from drawings import free_ground, settled_ground

# What is told with a ring too, what is refused there, and what is asked of two layers.
AHEAD = (deposits, links, ring)
BEHIND = (order, direct_pairs, levels, fewest_rows, widest)
OF_TWO = (chain, standing, two_orders)

HERE = os.path.dirname(os.path.abspath(__file__))

CUTS = [("n", "a\nb\nc"), ("s", "x\ny"), ("w", "pq")]
SAYINGS = [("same", "s.y", "n.b"), ("later", "w.p", "s.x"), ("since", "n.a", 4), ("later", "n.c", "w.q")]


def whole():
    return Ground(list(CUTS), list(SAYINGS))


def torn():
    return Ground(list(CUTS), SAYINGS + [("later", "n.c", "w.p")])


def questions(ground):
    """What can be asked of a ground, each function with its arguments; of the pairs of layers some."""
    layers = ground.layers()
    asked = [(tell, ground) for tell in AHEAD + BEHIND]
    asked += [(deposit_of, ground, layer) for layer in layers]
    asked += [(is_order, ground, some) for some in (layers, layers[::-1], deposits(ground)[0], [])]
    for one, other in list(zip(layers, layers[::-1])) + list(zip(layers, layers[3:])):
        asked += [(tell, ground, one, other) for tell in OF_TWO]
    return asked


def answer(tell, *things):
    try:
        return tell(*things)
    except Torn as error:
        return error.ring


def all_told(ground):
    return [answer(*asked) for asked in questions(ground)]


def own_things(ground):
    return [ground.cuts(), ground.sayings(), ground.layers(), ground.ties()]


def parts_of(told):
    """All lists and dicts in what is told, however deep, itself among them."""
    inner = list(told.values()) if isinstance(told, dict) else told if isinstance(told, (list, tuple)) else []
    parts = [told] if isinstance(told, (list, dict)) else []
    for part in inner:
        parts += parts_of(part)
    return parts


def spoil(told):
    """Changes each told list and dict in every way."""
    for part in parts_of(told):
        if isinstance(part, dict):
            part.update(dict.fromkeys(part, "other"), more=None)
        elif part:
            part.reverse()
            part.append("more")
            part[0] = None


class NothingKeptNothingChanged(unittest.TestCase):
    def test_each_kind_is_asked_for(self):
        told = dict(zip([asked[0] for asked in questions(whole())], all_told(whole())))
        for kind in (list, dict, tuple, str, bool):
            self.assertIn(kind, [type(some) for some in all_told(whole())])
        self.assertEqual(set(told), set(AHEAD + BEHIND + OF_TWO + (deposit_of, is_order)))

    def test_told_lists_changed(self):
        for make in (whole, torn):
            ground, before = make(), all_told(make())
            for told in all_told(ground):
                spoil(told)
                self.assertEqual(all_told(ground), before)
            for part in parts_of(all_told(ground)):
                part.clear()
            self.assertEqual(all_told(ground), before)

    def test_told_lists_are_not_changed_by_asking_again(self):
        for make in (whole, torn):
            ground = make()
            first, before = all_told(ground), all_told(make())
            for told in all_told(ground):
                spoil(told)
            all_told(Ground([("n", "b\na\nc"), ("s", "y\nx")], [("same", "n.a", "s.x")]))
            self.assertEqual(first, before)

    def test_no_list_is_told_twice(self):
        for make in (whole, torn):
            ground = make()
            told = parts_of([all_told(ground), all_told(ground), own_things(ground)])
            self.assertEqual(len({id(part) for part in told}), len(told))

    def test_another_ground_asked_in_between(self):
        grounds = [whole(), torn(), Ground(CUTS, []), Ground([("n", "c\nb\na"), ("s", "y\nx"), ("w", "qp")], SAYINGS)]
        before = [all_told(ground) for ground in grounds]
        for one, other in itertools.permutations(range(len(grounds)), 2):
            self.assertEqual(all_told(grounds[one]), before[one])
            self.assertEqual(all_told(grounds[other]), before[other])
            self.assertEqual(all_told(grounds[one]), before[one])

    def test_grounds_made_and_forgotten_in_turn(self):
        asked = [(all_told(free_ground(seed)), seed) for seed in range(60)]
        for told, seed in reversed(asked):
            self.assertEqual(all_told(free_ground(seed)), told)

    def test_the_grounds_own_things_stay(self):
        for make in (whole, torn):
            ground, before = make(), own_things(make())
            for told in all_told(ground):
                spoil(told)
            all_told(ground)
            self.assertEqual(own_things(ground), before)

    def test_the_grounds_own_things_stay_in_drawn_ones(self):
        for seed in range(60):
            for make in (free_ground, settled_ground):
                ground = make(seed)
                for told in all_told(ground):
                    spoil(told)
                self.assertEqual(own_things(ground), own_things(make(seed)))

    def test_each_ground_of_the_same_things_is_told_the_same(self):
        cuts, sayings = list(CUTS), list(SAYINGS)
        one, other = Ground(cuts, sayings), Ground(cuts, sayings)
        for told in all_told(one):
            spoil(told)
        cuts.clear()
        sayings.clear()
        self.assertEqual(all_told(one), all_told(other))
        self.assertEqual(all_told(one), all_told(whole()))


class NothingByChance(unittest.TestCase):
    def test_the_same_whatever_python_hashes_by(self):
        code = ("from drawings import free_ground, settled_ground\n"
                "from test_told import all_told\n"
                "for seed in range(25):\n"
                "    print([all_told(make(seed)) for make in (free_ground, settled_ground)])\n")
        answers = []
        for number in ("0", "1", "2"):
            told = subprocess.run([sys.executable, "-c", code], capture_output=True, text=True, check=True,
                                  cwd=HERE, env={**os.environ, "PYTHONHASHSEED": number,
                                                 "PYTHONPATH": os.path.dirname(HERE), "PYTHONDONTWRITEBYTECODE": "1"})
            answers.append(told.stdout)
        self.assertEqual(len(answers[0].splitlines()), 25)
        self.assertEqual(len(set(answers)), 1)


class Interface(unittest.TestCase):
    def test_arguments_by_their_names(self):
        for tell, asked in ((deposits, ["ground"]), (deposit_of, ["ground", "layer"]), (links, ["ground"]),
                            (ring, ["ground"]), (order, ["ground"]), (is_order, ["ground", "some"]),
                            (chain, ["ground", "one", "other"]), (standing, ["ground", "one", "other"]),
                            (two_orders, ["ground", "one", "other"]), (direct_pairs, ["ground"]),
                            (levels, ["ground"]), (fewest_rows, ["ground"]), (widest, ["ground"])):
            self.assertEqual(list(inspect.signature(tell).parameters), asked, tell)


if __name__ == "__main__":
    unittest.main()
