"""Plans of a house: its bins and spots, and how far it is between them."""

from depot.errors import NoBin, NoPlan
from depot.names import MOST_AISLES, MOST_PLACES, is_pair, is_whole

MOST_GAP = 20


def is_plan(thing):
    if not isinstance(thing, tuple) or len(thing) != 3:
        return False
    if not is_whole(thing[0], 1, MOST_AISLES) or not is_whole(thing[1], 1, MOST_PLACES):
        return False
    return is_whole(thing[2], 1, MOST_GAP)


def need_plan(plan):
    if not is_plan(plan):
        raise NoPlan("a tuple of 1 to 26 aisles, 1 to 99 places and a gap from 1 to 20 is wanted")


def is_bin(plan, thing):
    need_plan(plan)
    return is_pair(thing, plan[0], 1, plan[1])


def is_spot(plan, thing):
    need_plan(plan)
    return is_pair(thing, plan[0], 0, plan[1] + 1)


def bins_of(plan):
    need_plan(plan)
    bins = []
    for aisle in range(plan[0]):
        bins.extend([(aisle, place) for place in range(1, plan[1] + 1)])
    return bins


def bin_at(plan, number):
    need_plan(plan)
    if not is_whole(number, 0, plan[0] * plan[1] - 1):
        raise NoBin("the plan has no bin of that number")
    return (number // plan[1], number % plan[1] + 1)


def far(plan, one, other):
    if not is_spot(plan, one) or not is_spot(plan, other):
        raise NoBin("two spots of the plan are wanted")
    if one[0] == other[0]:
        return abs(one[1] - other[1])
    by_front = one[1] + other[1]
    by_back = 2 * (plan[1] + 1) - by_front
    # To cross over in a third aisle never pays: either end by itself is no farther.
    return plan[2] * abs(one[0] - other[0]) + min(by_front, by_back)
