"""The house: shelves, a day, lots, and the ledger of what was done."""

from depot.errors import NoAmount, NoDay, NoLot
from depot.names import LAST_DAY, MOST_AMOUNT, is_whole
from depot.needs import need_amount, need_bin, need_day, need_lot, need_ware
from depot.shelves import MOST_LOTS, Shelves


class House:
    def __init__(self, plan, room=1000):
        self.shelves = Shelves(plan, room)
        self.layout = plan
        self.day = 0
        self.known = []
        self.done = []

    def come(self, ware, due, spot, amount):
        need_ware(ware)
        need_day(due)
        need_bin(self.layout, spot)
        need_amount(amount)
        # Each thing was looked at by itself; what is due in this house, on this day, comes behind that.
        if due < self.day:
            raise NoDay("the lot would be good no more")
        lot = len(self.known)
        if lot >= MOST_LOTS:
            raise NoLot("the house has 1000 lots already")
        self.shelves.put(lot, spot, amount)
        self.known.append((ware, due, self.day))
        self.done.append(("come", lot, ware, due, spot, amount))
        return lot

    def need_go(self, lot, spot, amount):
        need_lot(lot, len(self.known))
        need_bin(self.layout, spot)
        need_amount(amount)
        self.shelves.need_there(lot, spot, amount)

    def go(self, lot, spot, amount):
        self.need_go(lot, spot, amount)
        self.shelves.take(lot, spot, amount)
        self.done.append(("go", lot, spot, amount))

    def move(self, lot, one, other, amount):
        need_lot(lot, len(self.known))
        self.shelves.shift(lot, one, other, amount)
        self.done.append(("move", lot, one, other, amount))

    def need_count(self, lot, spot, amount):
        need_lot(lot, len(self.known))
        need_bin(self.layout, spot)
        if not is_whole(amount, 0, MOST_AMOUNT):
            raise NoAmount("a whole number from 0 to 10 ** 6 is wanted")
        self.shelves.need_room(spot, amount - self.shelves.amount(lot, spot))

    def count(self, lot, spot, amount):
        self.need_count(lot, spot, amount)
        before = self.shelves.amount(lot, spot)
        if amount > before:
            self.shelves.put(lot, spot, amount - before)
        if amount < before:
            self.shelves.take(lot, spot, before - amount)
        self.done.append(("count", lot, spot, before, amount))
        return amount - before

    def next_day(self):
        if self.day >= LAST_DAY:
            raise NoDay("there is no day behind 9999")
        self.day = self.day + 1
        self.done.append(("day", self.day))
        return self.day

    def plan(self):
        return self.layout

    def today(self):
        return self.day

    def lots(self):
        return list(self.known)

    def rows(self):
        return list(self.done)

    def amount(self, lot, spot):
        need_lot(lot, len(self.known))
        return self.shelves.amount(lot, spot)

    def lying(self):
        return self.shelves.lying()

    def total(self, ware, day=0):
        need_ware(ware)
        need_day(day)
        grains = 0
        for held in self.lying().values():
            grains += sum([held[lot] for lot in held if self.serves(lot, ware, day)])
        return grains

    def serves(self, lot, ware, day):
        return self.known[lot][0] == ware and self.known[lot][1] >= day
