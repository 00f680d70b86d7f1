"""Points 1 and 2 for deposits, rings, orders and chains together, their interface, and the greatest grounds."""

import inspect
import itertools
import os
import subprocess
import sys
import unittest

from digbook.chains import chain, standing
from digbook.deposits import deposit_of, deposits, links
from digbook.errors import Torn
from digbook.ground import Ground
from digbook.orders import is_order, order
from digbook.rings import ring
from drawings import (ALPHABET, free_ground, greatest_free_ground, greatest_ground, greatest_names, long_row_ground,
                      settled_ground)
from readings import (ReadingCase, fewest_links, fewest_of_a_ring, keeps_all_links, least_in_turn, plain_groups,
                      plain_links, plain_names)

HERE = os.path.dirname(os.path.abspath(__file__))

CUTS = [("n", "a\nb\nc"), ("s", "x\ny"), ("w", "pq")]
SAYINGS = [("same", "s.y", "n.b"), ("later", "w.p", "s.x"), ("since", "n.a", 4), ("later", "n.c", "w.q")]


def whole():
    return Ground(list(CUTS), list(SAYINGS))


def torn():
    return Ground(list(CUTS), SAYINGS + [("later", "n.c", "w.p")])


def torn_ring(ask, *things):
    try:
        ask(*things)
    except Torn as error:
        return error.ring
    raise AssertionError("not refused with Torn")


def lists_told(ground):
    """All that is told of a ground and is a list."""
    told = [deposits(ground), links(ground)]
    if ring(ground) is not None:
        layers = ground.layers()
        return told + [ring(ground), torn_ring(order, ground), torn_ring(is_order, ground, []),
                       torn_ring(chain, ground, layers[0], layers[-1]),
                       torn_ring(standing, ground, layers[0], layers[-1])]
    told.append(order(ground))
    for one, other in itertools.product(ground.layers(), repeat=2):
        way = chain(ground, one, other)
        if way is not None:
            told.append(way)
    return told


def all_told(ground):
    told = lists_told(ground) + [[deposit_of(ground, layer) for layer in ground.layers()]]
    if ring(ground) is None:
        names = order(ground)
        told.append([is_order(ground, some) for some in (names, names[::-1], names[1:], [])])
        told += [standing(ground, one, other) for one, other in itertools.product(ground.layers(), repeat=2)]
    return told


def own_things(ground):
    return [ground.cuts(), ground.sayings(), ground.layers(), ground.ties()]


def spoil(told):
    """Changes a told list in every way, the lists within it too."""
    for part in told:
        if isinstance(part, list):
            part.append("more")
            part[0] = "other"
    told.reverse()
    told.append("more")
    told[0] = None


class NothingKeptNothingChanged(unittest.TestCase):
    def test_told_lists_changed(self):
        for make in (whole, torn):
            ground, before = make(), all_told(make())
            for told in lists_told(ground):
                spoil(told)
                self.assertEqual(all_told(ground), before)
            for told in lists_told(ground):
                told.clear()
            self.assertEqual(all_told(ground), before)

    def test_told_lists_are_not_changed_by_asking_again(self):
        for make in (whole, torn):
            ground = make()
            first, before = all_told(ground), all_told(make())
            for told in lists_told(ground):
                spoil(told)
            all_told(Ground([("n", "b\na\nc"), ("s", "y\nx")], [("same", "n.a", "s.x")]))
            self.assertEqual(first, before)

    def test_no_list_is_told_twice(self):
        for make in (whole, torn):
            ground = make()
            told = lists_told(ground) + lists_told(ground) + own_things(ground)
            told += [part for some in told for part in some if isinstance(part, list)]
            self.assertEqual(len({id(some) for some in told}), len(told))

    def test_another_ground_asked_in_between(self):
        grounds = [whole(), torn(), Ground(CUTS, []), Ground([("n", "c\nb\na"), ("s", "y\nx"), ("w", "qp")], SAYINGS)]
        before = [all_told(ground) for ground in grounds]
        for one, other in itertools.permutations(range(len(grounds)), 2):
            self.assertEqual(all_told(grounds[one]), before[one])
            self.assertEqual(all_told(grounds[other]), before[other])
            self.assertEqual(all_told(grounds[one]), before[one])

    def test_grounds_made_and_forgotten_in_turn(self):
        asked = [(all_told(free_ground(seed)), seed) for seed in range(60)]
        for told, seed in reversed(asked):
            self.assertEqual(all_told(free_ground(seed)), told)

    def test_the_grounds_own_things_stay(self):
        for make in (whole, torn):
            ground, before = make(), own_things(make())
            for told in lists_told(ground):
                spoil(told)
            all_told(ground)
            self.assertEqual(own_things(ground), before)

    def test_the_grounds_own_things_stay_in_drawn_ones(self):
        for seed in range(60):
            for make in (free_ground, settled_ground):
                ground = make(seed)
                for told in lists_told(ground):
                    spoil(told)
                self.assertEqual(own_things(ground), own_things(make(seed)))

    def test_each_ground_of_the_same_things_is_told_the_same(self):
        cuts, sayings = list(CUTS), list(SAYINGS)
        one, other = Ground(cuts, sayings), Ground(cuts, sayings)
        for told in lists_told(one):
            spoil(told)
        cuts.clear()
        sayings.clear()
        self.assertEqual(all_told(one), all_told(other))
        self.assertEqual(all_told(one), all_told(whole()))


class NothingByChance(unittest.TestCase):
    def test_the_same_whatever_python_hashes_by(self):
        code = ("from drawings import free_ground, settled_ground\n"
                "from test_told import all_told\n"
                "for seed in range(25):\n"
                "    print([all_told(make(seed)) for make in (free_ground, settled_ground)])\n")
        answers = []
        for number in ("0", "1", "2"):
            told = subprocess.run([sys.executable, "-c", code], capture_output=True, text=True, check=True,
                                  cwd=HERE, env={**os.environ, "PYTHONHASHSEED": number,
                                                 "PYTHONPATH": os.path.dirname(HERE), "PYTHONDONTWRITEBYTECODE": "1"})
            answers.append(told.stdout)
        self.assertEqual(len(answers[0].splitlines()), 25)
        self.assertEqual(len(set(answers)), 1)


class Interface(unittest.TestCase):
    def test_arguments_by_their_names(self):
        for tell, asked in ((deposits, ["ground"]), (deposit_of, ["ground", "layer"]), (links, ["ground"]),
                            (ring, ["ground"]), (order, ["ground"]), (is_order, ["ground", "some"]),
                            (chain, ["ground", "one", "other"]), (standing, ["ground", "one", "other"])):
            self.assertEqual(list(inspect.signature(tell).parameters), asked, tell)


class Greatest(ReadingCase):
    def check_deposits(self, ground):
        self.assertEqual(deposits(ground), plain_groups(ground))
        self.assertEqual(links(ground), plain_links(ground))
        names = plain_names(ground)
        for layer in ground.layers():
            self.assertEqual(deposit_of(ground, layer), names[layer])

    def check_untorn(self, ground):
        self.check_deposits(ground)
        self.assertIsNone(ring(ground))
        told = order(ground)
        self.assertEqual(told, least_in_turn(ground))
        self.assertTrue(keeps_all_links(ground, told))
        back = told[::-1]
        for some, asked in ((told, True), (back, keeps_all_links(ground, back)), (told[1:], False), (told * 2, False)):
            self.assertIs(is_order(ground, some), asked)
        names, counts = plain_names(ground), fewest_links(ground)
        # A part of the pairs, each layer in some of them.
        layers = ground.layers()
        for one, other in list(zip(layers, layers[::-1])) + list(zip(layers, layers[5:])):
            count = counts.get((names[one], names[other]))
            back = counts.get((names[other], names[one]))
            if count is None:
                self.assertIsNone(chain(ground, one, other))
            else:
                self.check_chain(ground, chain(ground, one, other), one, other, count)
            asked = "later" if count else "earlier" if back else "one" if names[one] == names[other] else "open"
            self.assertEqual(standing(ground, one, other), asked)

    def check_torn(self, ground, count):
        self.check_deposits(ground)
        self.check_ring(ground, ring(ground), count)
        layers = ground.layers()
        for ask in ((order, ground), (is_order, ground, layers), (chain, ground, layers[0], layers[-1]),
                    (standing, ground, layers[0], layers[-1])):
            self.check_ring(ground, torn_ring(*ask), count)

    def test_eight_great_cuts_and_sixty_sayings(self):
        for seed in range(2):
            ground = greatest_ground(seed)
            self.assertEqual((len(ground.cuts()), len(ground.sayings()), len(ground.layers())), (8, 60, 208))
            self.assertTrue(all(len(text) == 40 * 41 - 1 for _, text in ground.cuts()))
            self.check_untorn(ground)

    def test_torn_by_sayings(self):
        counts = set()
        for seed in range(4):
            ground = greatest_ground(seed, 57, 3)
            count = fewest_of_a_ring(ground)
            counts.add(count)
            self.check_torn(ground, count)
        self.assertTrue(max(counts) > 3)

    def test_torn_everywhere(self):
        for seed in range(2):
            ground = greatest_free_ground(seed)
            self.assertGreater(len(ground.ties()), 4000)
            self.check_torn(ground, fewest_of_a_ring(ground))

    def test_one_row_of_all(self):
        ground, names = long_row_ground(False), greatest_names()
        self.check_untorn(ground)
        self.assertEqual(order(ground), [name + "." + letter for name in names[::-1] for letter in ALPHABET[::-1]])
        one, other = names[0] + ".a", names[-1] + ".z"
        self.check_chain(ground, chain(ground, one, other), one, other, 207)
        self.assertIsNone(chain(ground, other, one))
        self.assertEqual([standing(ground, one, other), standing(ground, other, one)], ["later", "earlier"])

    def test_one_ring_of_all(self):
        self.check_torn(long_row_ground(True), 208)

    def test_sixty_same_sayings(self):
        layers = [name + "." + letter for letter in ALPHABET for name in greatest_names()]
        cuts = [(name, ALPHABET) for name in greatest_names()]
        for said in (list(zip(layers, layers[1:]))[:60], list(zip(layers, layers[1:]))[59::-1]):
            ground = Ground(cuts, [("same", one, other) for one, other in said])
            self.check_deposits(ground)
            self.assertEqual(deposits(ground)[0], sorted(layers[:61]))
            self.check_untorn(ground)


if __name__ == "__main__":
    unittest.main()
