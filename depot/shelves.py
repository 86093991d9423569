"""Shelves: amounts of lots in the bins of a plan."""

from depot.errors import NoRoom, TooLittle
from depot.needs import need_amount, need_bin, need_lot
from depot.plans import need_plan

MOST_LOTS = 1000


def change(stacks, spot, lot, more):
    held = stacks.setdefault(spot, {})
    held[lot] = held.get(lot, 0) + more
    # Nothing of 0 is told, so nothing of 0 is kept.
    if held[lot] == 0:
        held.pop(lot)
    if len(held) == 0:
        stacks.pop(spot)


def in_order(stacks):
    told = {}
    for spot in sorted(stacks):
        told[spot] = dict(sorted(stacks[spot].items()))
    return told


class Shelves:
    def __init__(self, plan, room=1000):
        need_plan(plan)
        need_amount(room)
        self.layout = plan
        self.room = room
        self.stacks = {}

    def put(self, lot, spot, amount):
        need_lot(lot, MOST_LOTS)
        need_bin(self.layout, spot)
        need_amount(amount)
        self.need_room(spot, amount)
        change(self.stacks, spot, lot, amount)

    def take(self, lot, spot, amount):
        need_lot(lot, MOST_LOTS)
        need_bin(self.layout, spot)
        need_amount(amount)
        self.need_there(lot, spot, amount)
        change(self.stacks, spot, lot, -amount)

    def shift(self, lot, one, other, amount):
        need_lot(lot, MOST_LOTS)
        need_bin(self.layout, one)
        need_bin(self.layout, other)
        need_amount(amount)
        self.need_there(lot, one, amount)
        # Within one bin nothing is brought in, so a full one is no hindrance.
        if one != other:
            self.need_room(other, amount)
            change(self.stacks, one, lot, -amount)
            change(self.stacks, other, lot, amount)

    def amount(self, lot, spot):
        need_lot(lot, MOST_LOTS)
        need_bin(self.layout, spot)
        return self.stacks.get(spot, {}).get(lot, 0)

    def held(self, spot):
        need_bin(self.layout, spot)
        return sorted(self.stacks.get(spot, {}).items())

    def filled(self, spot):
        need_bin(self.layout, spot)
        return sum(self.stacks.get(spot, {}).values())

    def places(self, lot):
        need_lot(lot, MOST_LOTS)
        return [(spot, self.stacks[spot][lot]) for spot in sorted(self.stacks) if lot in self.stacks[spot]]

    def lying(self):
        return in_order(self.stacks)

    def need_there(self, lot, spot, amount):
        if self.amount(lot, spot) < amount:
            raise TooLittle("less of the lot lies in the bin")

    def need_room(self, spot, amount):
        if self.filled(spot) + amount > self.room:
            raise NoRoom("the bin would have more than its room")
