"""What points 8 to 15 say, read in the plainest way, however slow, to hold the program's answers against."""

import itertools
import unittest


def plain_groups(ground):
    """The deposits: single layers at first, then the groups of each same-saying's two layers joined."""
    groups = [{layer} for layer in ground.layers()]
    for word, one, other in ground.sayings():
        if word == "same":
            both = [group for group in groups if one in group or other in group]
            groups = [group for group in groups if group not in both] + [set().union(*both)]
    return sorted(sorted(group) for group in groups)


def plain_names(ground):
    return {layer: group[0] for group in plain_groups(ground) for layer in group}


def plain_links(ground):
    names = plain_names(ground)
    return sorted({(names[later], names[earlier], source) for later, earlier, source in ground.ties()})


def fewest_links(ground):
    """From (later, earlier) to the fewest links that lead from the one to the other, one or more."""
    earlier_ones = {}
    for later, earlier, _ in plain_links(ground):
        earlier_ones.setdefault(later, set()).add(earlier)
    told = {}
    for start in earlier_ones:
        reached, count = earlier_ones[start], 1
        while reached:
            told.update(((start, name), count) for name in reached)
            reached = {name for at in reached for name in earlier_ones.get(at, ()) if (start, name) not in told}
            count += 1
    return told


def fewest_of_a_ring(ground):
    """How many links the shortest ring has, or None."""
    return min((count for (start, end), count in fewest_links(ground).items() if start == end), default=None)


def untorn(grounds):
    return [ground for ground in grounds if fewest_of_a_ring(ground) is None]


def keeps_all_links(ground, names):
    return all(names.index(earlier) < names.index(later) for later, earlier, _ in plain_links(ground))


def all_orders(ground):
    names = [group[0] for group in plain_groups(ground)]
    return [list(some) for some in itertools.permutations(names) if keeps_all_links(ground, some)]


def least_in_turn(ground):
    """At each place the least deposit whose earlier ones all stand already."""
    waiting = [group[0] for group in plain_groups(ground)]
    links, told = plain_links(ground), []
    while waiting:
        told.append(min(name for name in waiting
                        if all(earlier in told for later, earlier, _ in links if later == name)))
        waiting.remove(told[-1])
    return told


def leads_to(pairs):
    """All (later, earlier) by one of these pairs or by several in a row."""
    told = set(pairs)
    while True:
        more = {(one, end) for one, middle in told for start, end in told if middle == start} - told
        if not more:
            return told
        told |= more


def plain_direct(ground):
    """The pairs of the links, without those for which a deposit lies between the two."""
    later = set(fewest_links(ground))
    names = plain_groups(ground)
    return sorted({(one, other) for one, other, _ in plain_links(ground)
                   if not any((one, name[0]) in later and (name[0], other) in later for name in names)})


def plain_levels(ground):
    """Of each deposit as many links as in the longest of all chains from it."""
    beneath = {}
    for later, earlier, _ in plain_links(ground):
        beneath.setdefault(later, set()).add(earlier)
    told = {}
    for name in [group[0] for group in plain_groups(ground)]:
        reached, count = {name}, 0
        while reached:
            told[name] = count
            reached = {below for at in reached for below in beneath.get(at, ())}
            count += 1
    return told


def fewest_rows_tried(ground):
    """How many rows do, when each deposit is tried in each row."""
    later = set(fewest_links(ground))
    return fewest_with([], [group[0] for group in plain_groups(ground)], later)


def fewest_with(rows, names, later):
    if not names:
        return len(rows)
    name, others = names[0], names[1:]
    tried = [fewest_with(rows + [[name]], others, later)]
    for place, row in enumerate(rows):
        if all((name, other) in later or (other, name) in later for other in row):
            tried.append(fewest_with(rows[:place] + [row + [name]] + rows[place + 1:], others, later))
    return min(tried)


def widest_tried(ground):
    """How many are in the greatest of all sets of deposits of which none is later than another one."""
    later = set(fewest_links(ground))
    sets = [()]
    for group in plain_groups(ground):
        name = group[0]
        sets += [some + (name,) for some in sets
                 if all((name, other) not in later and (other, name) not in later for other in some)]
    return max(len(some) for some in sets)


class ReadingCase(unittest.TestCase):
    def check_list_of_links(self, ground, told):
        self.assertIsInstance(told, list)
        self.assertGreaterEqual(len(told), 1)
        links = plain_links(ground)
        for link in told:
            self.assertIsInstance(link, tuple)
            self.assertIn(link, links)
        for ahead, behind in zip(told, told[1:]):
            self.assertEqual(ahead[1], behind[0], told)

    def check_ring(self, ground, told, count):
        self.check_list_of_links(ground, told)
        self.assertEqual(told[-1][1], told[0][0], told)
        self.assertEqual(len(told), count, told)

    def check_chain(self, ground, told, one, other, count):
        self.check_list_of_links(ground, told)
        names = plain_names(ground)
        self.assertEqual((told[0][0], told[-1][1]), (names[one], names[other]), told)
        self.assertEqual(len(told), count, told)

    def check_order(self, ground, told):
        self.assertIsInstance(told, list)
        self.assertEqual(sorted(told), [group[0] for group in plain_groups(ground)])
        self.assertTrue(keeps_all_links(ground, told), told)

    def check_rows(self, ground, told, count):
        """Rows as point 15 asks, so many of them; that none fewer do is for the asker to know."""
        later = set(fewest_links(ground))
        self.assertIsInstance(told, list)
        self.assertEqual(len(told), count, told)
        for row in told:
            self.assertIsInstance(row, list)
            self.assertGreaterEqual(len(row), 1)
            for ahead, behind in zip(row, row[1:]):
                self.assertIn((ahead, behind), later, told)
        self.assertEqual(sorted(name for row in told for name in row), [group[0] for group in plain_groups(ground)])
        self.assertEqual([row[0] for row in told], sorted(row[0] for row in told))

    def check_widest(self, ground, told, count):
        later = set(fewest_links(ground))
        self.assertIsInstance(told, list)
        self.assertEqual(len(told), count, told)
        self.assertEqual(told, sorted(set(told)))
        self.assertLessEqual(set(told), {group[0] for group in plain_groups(ground)})
        for one, other in itertools.permutations(told, 2):
            self.assertNotIn((one, other), later, told)
