"""The ledger: what its rows tell of lots and bins, and the house that did them."""

from depot.errors import DepotError, NoRow
from depot.houses import House
from depot.names import is_whole
from depot.shelves import change, in_order

LENGTHS = {"come": 6, "go": 4, "move": 5, "count": 5, "day": 2}


# Triples (bin, lot, how many more): both what is left of a lot and what lies in bins are sums of these.
def changes_of(row):
    if row[0] == "come":
        return [(row[4], row[1], row[5])]
    if row[0] == "go":
        return [(row[2], row[1], -row[3])]
    if row[0] == "move":
        return [(row[2], row[1], -row[4]), (row[3], row[1], row[4])]
    if row[0] == "count":
        return [(row[2], row[1], row[4] - row[3])]
    return []


def left_of(rows, lot):
    left = 0
    for row in rows:
        left += sum([more for spot, other, more in changes_of(row) if other == lot])
    return left


def lying_by(rows):
    stacks = {}
    for row in rows:
        for spot, lot, more in changes_of(row):
            change(stacks, spot, lot, more)
    return in_order(stacks)


def is_formed(row):
    if not isinstance(row, tuple) or len(row) == 0 or not isinstance(row[0], str):
        return False
    return LENGTHS.get(row[0]) == len(row)


# A row's lot, day and before are the house's own to tell. They are looked at with is_whole, not with ==:
# True is no lot and no day, though Python has it equal to 1.
def does_as_told(house, row):
    if row[0] == "come":
        lot = house.come(row[2], row[3], row[4], row[5])
        return is_whole(row[1], lot, lot)
    if row[0] == "count":
        before = house.amount(row[1], row[2])
        house.count(row[1], row[2], row[4])
        return is_whole(row[3], before, before)
    if row[0] == "day":
        day = house.next_day()
        return is_whole(row[1], day, day)
    if row[0] == "go":
        house.go(row[1], row[2], row[3])
    else:
        house.move(row[1], row[2], row[3], row[4])
    return True


def is_done(house, row):
    try:
        return does_as_told(house, row)
    except DepotError:
        return False


def house_of(rows, plan, room=1000):
    house = House(plan, room)
    if not isinstance(rows, list):
        raise NoRow("a list of rows is wanted")
    for row in rows:
        if not is_formed(row) or not is_done(house, row):
            raise NoRow("a house with that plan and room could not do this row")
    return house
