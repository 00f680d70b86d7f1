"""What points 8 to 19 say, read in the plainest way, however slow, to hold the program's answers against."""

import functools
import itertools
import unittest

# A ground never changes, and the same one is read many times over; nobody changes what is read.
kept_a_while = functools.lru_cache(maxsize=8)


@kept_a_while
def plain_groups(ground):
    """The deposits: single layers at first, then the groups of each same-saying's two layers joined."""
    groups = [{layer} for layer in ground.layers()]
    for word, one, other in ground.sayings():
        if word == "same":
            both = [group for group in groups if one in group or other in group]
            groups = [group for group in groups if group not in both] + [set().union(*both)]
    return sorted(sorted(group) for group in groups)


@kept_a_while
def plain_names(ground):
    return {layer: group[0] for group in plain_groups(ground) for layer in group}


@kept_a_while
def plain_links(ground):
    names = plain_names(ground)
    return sorted({(names[later], names[earlier], source) for later, earlier, source in ground.ties()})


@kept_a_while
def fewest_links(ground):
    """From (later, earlier) to the fewest links that lead from the one to the other, one or more."""
    earlier_ones = {}
    for later, earlier, _ in plain_links(ground):
        earlier_ones.setdefault(later, set()).add(earlier)
    told = {}
    for start in earlier_ones:
        reached, count = earlier_ones[start], 1
        while reached:
            told.update(((start, name), count) for name in reached)
            reached = {name for at in reached for name in earlier_ones.get(at, ()) if (start, name) not in told}
            count += 1
    return told


def fewest_of_a_ring(ground):
    """How many links the shortest ring has, or None."""
    return min((count for (start, end), count in fewest_links(ground).items() if start == end), default=None)


def untorn(grounds):
    return [ground for ground in grounds if fewest_of_a_ring(ground) is None]


def keeps_all_links(ground, names):
    places = {name: place for place, name in enumerate(names)}
    return all(places[earlier] < places[later] for later, earlier, _ in plain_links(ground))


def all_orders(ground):
    names = [group[0] for group in plain_groups(ground)]
    return [list(some) for some in itertools.permutations(names) if keeps_all_links(ground, some)]


def least_in_turn(ground):
    """At each place the least deposit whose earlier ones all stand already."""
    waiting = [group[0] for group in plain_groups(ground)]
    links, told = plain_links(ground), []
    while waiting:
        told.append(min(name for name in waiting
                        if all(earlier in told for later, earlier, _ in links if later == name)))
        waiting.remove(told[-1])
    return told


def leads_to(pairs):
    """All (later, earlier) by one of these pairs or by several in a row."""
    told = set(pairs)
    while True:
        more = {(one, end) for one, middle in told for start, end in told if middle == start} - told
        if not more:
            return told
        told |= more


def plain_direct(ground):
    """The pairs of the links, without those for which a deposit lies between the two."""
    later = set(fewest_links(ground))
    names = plain_groups(ground)
    return sorted({(one, other) for one, other, _ in plain_links(ground)
                   if not any((one, name[0]) in later and (name[0], other) in later for name in names)})


def plain_levels(ground):
    """Of each deposit as many links as in the longest of all chains from it."""
    beneath = {}
    for later, earlier, _ in plain_links(ground):
        beneath.setdefault(later, set()).add(earlier)
    told = {}
    for name in [group[0] for group in plain_groups(ground)]:
        reached, count = {name}, 0
        while reached:
            told[name] = count
            reached = {below for at in reached for below in beneath.get(at, ())}
            count += 1
    return told


def fewest_rows_tried(ground):
    """How many rows do, when each deposit is tried in each row."""
    later = set(fewest_links(ground))
    return fewest_with([], [group[0] for group in plain_groups(ground)], later)


def fewest_with(rows, names, later):
    if not names:
        return len(rows)
    name, others = names[0], names[1:]
    tried = [fewest_with(rows + [[name]], others, later)]
    for place, row in enumerate(rows):
        if all((name, other) in later or (other, name) in later for other in row):
            tried.append(fewest_with(rows[:place] + [row + [name]] + rows[place + 1:], others, later))
    return min(tried)


def widest_tried(ground):
    """How many are in the greatest of all sets of deposits of which none is later than another one."""
    later = set(fewest_links(ground))
    sets = [()]
    for group in plain_groups(ground):
        name = group[0]
        sets += [some + (name,) for some in sets
                 if all((name, other) not in later and (other, name) not in later for other in some)]
    return max(len(some) for some in sets)


@kept_a_while
def years_said(ground, word):
    """Of each saying of this word its number, its deposit and its year."""
    names = plain_names(ground)
    return [(number, names[saying[1]], saying[2]) for number, saying in enumerate(ground.sayings())
            if saying[0] == word]


@kept_a_while
def one_or_later(ground):
    """All pairs (upper, lower) of deposits that are one and the same, or the upper later than the lower."""
    return set(fewest_links(ground)) | {(group[0], group[0]) for group in plain_groups(ground)}


@kept_a_while
def plain_bounds(ground):
    upon = one_or_later(ground)
    return {group[0]: (max([-9999] + [year for _, name, year in years_said(ground, "since") if (group[0], name) in upon]),
                       min([9999] + [year for _, name, year in years_said(ground, "by") if (name, group[0]) in upon]))
            for group in plain_groups(ground)}


@kept_a_while
def plain_clashes(ground):
    """All pairs (since, by) of numbers that clash, sorted."""
    upon = one_or_later(ground)
    return [(since, by) for since, lower, first in years_said(ground, "since")
            for by, upper, last in years_said(ground, "by") if first > last and (upper, lower) in upon]


def do_fit(ground, years):
    """Whether these years, a dict from the deposits, fit by point 16."""
    return (all(-9999 <= year <= 9999 for year in years.values())
            and all(years[later] >= years[earlier] for later, earlier, _ in plain_links(ground))
            and all(years[name] >= year for _, name, year in years_said(ground, "since"))
            and all(years[name] <= year for _, name, year in years_said(ground, "by")))


def all_fitting(ground, years):
    """All that fit of the dicts from the deposits to some of these years."""
    names = [group[0] for group in plain_groups(ground)]
    tried = (dict(zip(names, some)) for some in itertools.product(years, repeat=len(names)))
    return [some for some in tried if do_fit(ground, some)]


def fewest_left_out(ground):
    """How many sayings at least must be left out, any of them tried, so that no two clash."""
    clashes = plain_clashes(ground)
    numbers = sorted({number for pair in clashes for number in pair})
    for count in range(len(numbers) + 1):
        for some in itertools.combinations(numbers, count):
            if all(since in some or by in some for since, by in clashes):
                return count


class ReadingCase(unittest.TestCase):
    def check_list_of_links(self, ground, told):
        self.assertIsInstance(told, list)
        self.assertGreaterEqual(len(told), 1)
        links = plain_links(ground)
        for link in told:
            self.assertIsInstance(link, tuple)
            self.assertIn(link, links)
        for ahead, behind in zip(told, told[1:]):
            self.assertEqual(ahead[1], behind[0], told)

    def check_ring(self, ground, told, count):
        self.check_list_of_links(ground, told)
        self.assertEqual(told[-1][1], told[0][0], told)
        self.assertEqual(len(told), count, told)

    def check_chain(self, ground, told, one, other, count):
        self.check_list_of_links(ground, told)
        names = plain_names(ground)
        self.assertEqual((told[0][0], told[-1][1]), (names[one], names[other]), told)
        self.assertEqual(len(told), count, told)

    def check_order(self, ground, told):
        self.assertIsInstance(told, list)
        self.assertEqual(sorted(told), [group[0] for group in plain_groups(ground)])
        self.assertTrue(keeps_all_links(ground, told), told)

    def check_rows(self, ground, told, count):
        """Rows as point 15 asks, so many of them; that none fewer do is for the asker to know."""
        later = set(fewest_links(ground))
        self.assertIsInstance(told, list)
        self.assertEqual(len(told), count, told)
        for row in told:
            self.assertIsInstance(row, list)
            self.assertGreaterEqual(len(row), 1)
            for ahead, behind in zip(row, row[1:]):
                self.assertIn((ahead, behind), later, told)
        self.assertEqual(sorted(name for row in told for name in row), [group[0] for group in plain_groups(ground)])
        self.assertEqual([row[0] for row in told], sorted(row[0] for row in told))

    def check_widest(self, ground, told, count):
        later = set(fewest_links(ground))
        self.assertIsInstance(told, list)
        self.assertEqual(len(told), count, told)
        self.assertEqual(told, sorted(set(told)))
        self.assertLessEqual(set(told), {group[0] for group in plain_groups(ground)})
        for one, other in itertools.permutations(told, 2):
            self.assertNotIn((one, other), later, told)

    def check_bound_chain(self, ground, told, one, other):
        """A shortest chain between two deposits, or [] where they are one."""
        if one == other:
            self.assertEqual(told, [])
            self.assertIsInstance(told, list)
        else:
            self.check_chain(ground, told, one, other, fewest_links(ground)[one, other])

    def check_clash(self, ground, told):
        clashes = plain_clashes(ground)
        if not clashes:
            self.assertIsNone(told)
            return
        self.assertIsInstance(told, tuple)
        since, by, way = told
        self.assertEqual((since, by), clashes[0])
        names, sayings = plain_names(ground), ground.sayings()
        self.assertEqual((sayings[since][0], sayings[by][0]), ("since", "by"))
        self.check_bound_chain(ground, way, names[sayings[by][1]], names[sayings[since][1]])

    def check_whys(self, ground, layer, least, greatest):
        """Both reasons told of a layer's bounds, held against the sayings one by one."""
        upon, name = one_or_later(ground), plain_names(ground)[layer]
        bounds = plain_bounds(ground)[name]
        sinces = [said for said in years_said(ground, "since") if (name, said[1]) in upon and said[2] == bounds[0]]
        bys = [said for said in years_said(ground, "by") if (said[1], name) in upon and said[2] == bounds[1]]
        for told, said, place in ((least, sinces, 0), (greatest, bys, 1)):
            if not said:
                self.assertIsNone(told, layer)
                continue
            self.assertIsInstance(told, tuple)
            number, way = told
            self.assertEqual(number, said[0][0], layer)
            ends = (name, said[0][1]) if place == 0 else (said[0][1], name)
            self.check_bound_chain(ground, way, *ends)

    def check_wrong(self, ground, told):
        """As point 19 asks; with as many pairs as numbers no fewer will do."""
        self.assertIsInstance(told, tuple)
        numbers, pairs = told
        self.assertEqual((type(numbers), type(pairs)), (list, list))
        clashes = plain_clashes(ground)
        self.assertEqual(numbers, sorted(set(numbers)))
        self.assertEqual(pairs, sorted(pairs))
        self.assertEqual(len(pairs), len(numbers), told)
        for pair in pairs:
            self.assertIn(pair, clashes)
        self.assertEqual(len({number for pair in pairs for number in pair}), 2 * len(pairs), told)
        for since, by in clashes:
            self.assertTrue(since in numbers or by in numbers, told)
        words = [saying[0] for saying in ground.sayings()]
        self.assertLessEqual({words[number] for number in numbers}, {"since", "by"})
