"""What points 8 to 11 say, read in the plainest way, however slow, to hold the program's answers against."""

import itertools
import unittest


def plain_groups(ground):
    """The deposits: single layers at first, then the groups of each same-saying's two layers joined."""
    groups = [{layer} for layer in ground.layers()]
    for word, one, other in ground.sayings():
        if word == "same":
            both = [group for group in groups if one in group or other in group]
            groups = [group for group in groups if group not in both] + [set().union(*both)]
    return sorted(sorted(group) for group in groups)


def plain_names(ground):
    return {layer: group[0] for group in plain_groups(ground) for layer in group}


def plain_links(ground):
    names = plain_names(ground)
    return sorted({(names[later], names[earlier], source) for later, earlier, source in ground.ties()})


def fewest_links(ground):
    """From (later, earlier) to the fewest links that lead from the one to the other, one or more."""
    earlier_ones = {}
    for later, earlier, _ in plain_links(ground):
        earlier_ones.setdefault(later, set()).add(earlier)
    told = {}
    for start in earlier_ones:
        reached, count = earlier_ones[start], 1
        while reached:
            told.update(((start, name), count) for name in reached)
            reached = {name for at in reached for name in earlier_ones.get(at, ()) if (start, name) not in told}
            count += 1
    return told


def fewest_of_a_ring(ground):
    """How many links the shortest ring has, or None."""
    return min((count for (start, end), count in fewest_links(ground).items() if start == end), default=None)


def keeps_all_links(ground, names):
    return all(names.index(earlier) < names.index(later) for later, earlier, _ in plain_links(ground))


def all_orders(ground):
    names = [group[0] for group in plain_groups(ground)]
    return [list(some) for some in itertools.permutations(names) if keeps_all_links(ground, some)]


def least_in_turn(ground):
    """At each place the least deposit whose earlier ones all stand already."""
    waiting = [group[0] for group in plain_groups(ground)]
    links, told = plain_links(ground), []
    while waiting:
        told.append(min(name for name in waiting
                        if all(earlier in told for later, earlier, _ in links if later == name)))
        waiting.remove(told[-1])
    return told


class ReadingCase(unittest.TestCase):
    def check_list_of_links(self, ground, told):
        self.assertIsInstance(told, list)
        self.assertGreaterEqual(len(told), 1)
        links = plain_links(ground)
        for link in told:
            self.assertIsInstance(link, tuple)
            self.assertIn(link, links)
        for ahead, behind in zip(told, told[1:]):
            self.assertEqual(ahead[1], behind[0], told)

    def check_ring(self, ground, told, count):
        self.check_list_of_links(ground, told)
        self.assertEqual(told[-1][1], told[0][0], told)
        self.assertEqual(len(told), count, told)

    def check_chain(self, ground, told, one, other, count):
        self.check_list_of_links(ground, told)
        names = plain_names(ground)
        self.assertEqual((told[0][0], told[-1][1]), (names[one], names[other]), told)
        self.assertEqual(len(told), count, told)
