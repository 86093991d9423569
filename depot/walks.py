"""Walks that come to bins: the shortest one by the rule, how long a walk is, and its stops."""

from depot.needs import need_bin
from depot.plans import far, need_plan

DOOR = (0, 0)


# Aisles without a bin have their own empty list, up to the last one with a bin: the walk goes by them, too.
def places_by_aisle(bins):
    last = max([aisle for aisle, place in bins], default=-1)
    aisles = [[] for aisle in range(last + 1)]
    for aisle, place in bins:
        aisles[aisle].append(place)
    return aisles


def farthest(places, end):
    return max(places) if end == 0 else min(places)


def steps_within(plan, places, end, goal):
    if goal != end:
        return plan[1] + 1
    if len(places) == 0:
        return 0
    return 2 * abs(farthest(places, end) - end)


# A way is a pair: its steps within aisles, and the end at which it leaves each of them. The steps along the ends
# don't count here: they are as many for every way.
def ways_behind(plan, places, ways):
    found = {}
    for end, way in ways.items():
        for goal in (0, plan[1] + 1):
            one = (way[0] + steps_within(plan, places, end, goal), way[1] + (goal,))
            found[goal] = min(found.get(goal, one), one)
    return found


def shortest_ends(plan, aisles):
    ways = {0: (0, ())}
    for places in aisles:
        ways = ways_behind(plan, places, ways)
    return ways[0][1]


def spots_within(aisle, places, end, goal):
    if goal != end:
        return [(aisle, end), (aisle, goal)]
    if len(places) == 0:
        return []
    return [(aisle, end), (aisle, farthest(places, end)), (aisle, end)]


def spots_by(aisles, ends):
    spots = [DOOR]
    end = 0
    for aisle, goal in enumerate(ends):
        for spot in spots_within(aisle, aisles[aisle], end, goal):
            go_to(spots, spot)
        end = goal
    go_to(spots, DOOR)
    return spots


def go_to(spots, spot):
    if spots[-1] != spot:
        spots.append(spot)


def walk(plan, bins):
    need_plan(plan)
    for spot in bins:
        need_bin(plan, spot)
    aisles = places_by_aisle(bins)
    return spots_by(aisles, shortest_ends(plan, aisles))


def length(plan, spots):
    need_plan(plan)
    # Straight on is never farther than any other way, along an aisle or along the ends.
    return sum([far(plan, one, other) for one, other in zip(spots, spots[1:])])


def spots_between(one, other):
    if one[0] != other[0]:
        return [one, other]
    step = 1 if one[1] < other[1] else -1
    return [(one[0], place) for place in range(one[1], other[1] + step, step)]


def stops(plan, spots, bins):
    need_plan(plan)
    wanted = dict([(spot, True) for spot in bins])
    met = {}
    for one, other in zip(spots, spots[1:]):
        for spot in spots_between(one, other):
            if spot in wanted:
                met[spot] = True
    return list(met)
