"""What the stages share: links followed from deposit to deposit, and pairs, as many as there can be."""

LATER = 0
EARLIER = 1


def links_by_later(found):
    return grouped(found, LATER)


def links_by_earlier(found):
    return grouped(found, EARLIER)


def grouped(found, side):
    groups = {}
    for link in found:
        groups.setdefault(link[side], []).append(link)
    return groups


# At each place the least that can stand there. What is on a ring, or later than
# something that is, can stand nowhere and is left out.
def laid_in_turn(names, found):
    beneath = links_by_later(found)
    above = links_by_earlier(found)
    waits = {}
    for name in names:
        waits[name] = len(beneath.get(name, []))
    ready = [name for name in names if waits[name] == 0]
    laid = []
    while len(ready) > 0:
        least = min(ready)
        ready.remove(least)
        laid.append(least)
        for link in above.get(least, []):
            waits[link[LATER]] = waits[link[LATER]] - 1
            if waits[link[LATER]] == 0:
                ready.append(link[LATER])
    return laid


# The start does not count as reached, so a way from a deposit back to itself is found too.
def shortest_way(beneath, start, goal):
    reached = {}
    edge = [start]
    while len(edge) > 0 and goal not in reached:
        edge = next_edge(beneath, edge, reached)
    if goal not in reached:
        return None
    return way_to(reached, start, goal)


# Keeps by which link each deposit was reached first, for the way is read backwards.
def next_edge(beneath, edge, reached):
    further = []
    for name in edge:
        for link in beneath.get(name, []):
            if link[EARLIER] not in reached:
                reached[link[EARLIER]] = link
                further.append(link[EARLIER])
    return further


def way_to(reached, start, goal):
    way = [reached[goal]]
    while way[-1][LATER] != start:
        way.append(reached[way[-1][LATER]])
    return list(reversed(way))


# From each deposit to all that it is later than, by one link or more. Only for
# links without a ring, where all that lies beneath a deposit is laid ahead of it.
def all_beneath(names, found):
    beneath = links_by_later(found)
    reach = {}
    for name in laid_in_turn(names, found):
        reach[name] = {}
        for link in beneath.get(name, []):
            reach[name][link[EARLIER]] = True
            reach[name].update(reach[link[EARLIER]])
    return reach


# Pairs of an asker and one of its partners, no asker and no partner in two of
# them, as many as there can be: told is which asker holds each partner.
def most_pairs(partners):
    held_by = {}
    for asker in partners:
        asked_by = ask_around(partners, held_by, [asker])
        free = [partner for partner in asked_by if partner not in held_by]
        if len(free) > 0:
            pass_on(held_by, asked_by, free[0])
    return held_by


# Who holds a partner that is asked for asks for another one in turn, until one is
# met that nobody holds. Told is by whom each partner was asked for first.
def ask_around(partners, held_by, askers):
    asked_by = {}
    waiting = list(askers)
    while len(waiting) > 0:
        asker = waiting.pop()
        for partner in partners[asker]:
            if partner not in asked_by:
                asked_by[partner] = asker
                if partner not in held_by:
                    return asked_by
                waiting.append(held_by[partner])
    return asked_by


# Back along the asking each one gets what it asked for, and so can give up what it held.
def pass_on(held_by, asked_by, free):
    holds = keys_by_value(held_by)
    partner = free
    while partner is not None:
        asker = asked_by[partner]
        held_by[partner] = asker
        partner = holds.get(asker)


def keys_by_value(some):
    turned_about = {}
    for key, value in some.items():
        turned_about[value] = key
    return turned_about


# Of each of the most pairs one, such that of any asker and any of its partners one
# is among them: the partner where the askers without one ask for it, else the asker.
def one_of_each_pair(partners, held_by):
    holds = keys_by_value(held_by)
    asked_by = ask_around(partners, held_by, [asker for asker in partners if asker not in holds])
    return [partner if partner in asked_by else asker for partner, asker in held_by.items()]
