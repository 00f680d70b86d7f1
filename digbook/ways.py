"""Links followed from deposit to deposit: what can be laid in turn, and shortest ways."""

LATER = 0
EARLIER = 1


def links_by_later(found):
    return grouped(found, LATER)


def links_by_earlier(found):
    return grouped(found, EARLIER)


def grouped(found, side):
    groups = {}
    for link in found:
        groups.setdefault(link[side], []).append(link)
    return groups


# At each place the least that can stand there. What is on a ring, or later than
# something that is, can stand nowhere and is left out.
def laid_in_turn(names, found):
    beneath = links_by_later(found)
    above = links_by_earlier(found)
    waits = {}
    for name in names:
        waits[name] = len(beneath.get(name, []))
    ready = [name for name in names if waits[name] == 0]
    laid = []
    while len(ready) > 0:
        least = min(ready)
        ready.remove(least)
        laid.append(least)
        for link in above.get(least, []):
            waits[link[LATER]] = waits[link[LATER]] - 1
            if waits[link[LATER]] == 0:
                ready.append(link[LATER])
    return laid


# The start does not count as reached, so a way from a deposit back to itself is found too.
def shortest_way(beneath, start, goal):
    reached = {}
    edge = [start]
    while len(edge) > 0 and goal not in reached:
        edge = next_edge(beneath, edge, reached)
    if goal not in reached:
        return None
    return way_to(reached, start, goal)


# Keeps by which link each deposit was reached first, for the way is read backwards.
def next_edge(beneath, edge, reached):
    further = []
    for name in edge:
        for link in beneath.get(name, []):
            if link[EARLIER] not in reached:
                reached[link[EARLIER]] = link
                further.append(link[EARLIER])
    return further


def way_to(reached, start, goal):
    way = [reached[goal]]
    while way[-1][LATER] != start:
        way.append(reached[way[-1][LATER]])
    return list(reversed(way))
