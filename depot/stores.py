"""The store: a house with promises."""

from depot.asks import free, keepable
from depot.errors import Broken, NoDay, NoPromise, NotToday, StillOpen
from depot.houses import House
from depot.keeping import kept_rows, pieces_behind, stock_of
from depot.names import is_whole
from depot.needs import need_amount, need_day, need_ware
from depot.picking import pieces_of
from depot.rules import rule_of


def asks_of(promises, ware):
    return [(day, amount) for other, amount, day in promises.values() if other == ware]


class Store:
    def __init__(self, plan, room=1000):
        self.house = House(plan, room)
        # The open ones alone, by their numbers: a dict keeps the order in which they were let by.
        self.promises = {}
        self.let_by = 0

    def plan(self):
        return self.house.plan()

    def today(self):
        return self.house.today()

    def lots(self):
        return self.house.lots()

    def rows(self):
        return self.house.rows()

    def amount(self, lot, spot):
        return self.house.amount(lot, spot)

    def lying(self):
        return self.house.lying()

    def total(self, ware, day=0):
        return self.house.total(ware, day)

    def come(self, ware, due, spot, amount):
        return self.house.come(ware, due, spot, amount)

    def move(self, lot, one, other, amount):
        self.house.move(lot, one, other, amount)

    def go(self, lot, spot, amount):
        self.house.need_go(lot, spot, amount)
        self.need_kept(lot, spot, self.amount(lot, spot) - amount)
        self.house.go(lot, spot, amount)

    def count(self, lot, spot, amount):
        self.house.need_count(lot, spot, amount)
        self.need_kept(lot, spot, amount)
        return self.house.count(lot, spot, amount)

    def next_day(self):
        if len(self.due_today()) > 0:
            raise StillOpen("a promise for today is open")
        return self.house.next_day()

    def promise(self, ware, amount, day):
        need_ware(ware)
        need_amount(amount)
        self.need_coming(day)
        if not keepable(stock_of(self.pieces(ware)), asks_of(self.promises, ware) + [(day, amount)]):
            raise Broken("the ware's promises could not all be kept with this one")
        number = self.let_by
        self.promises[number] = (ware, amount, day)
        self.let_by = number + 1
        return number

    def drop(self, number):
        self.need_promise(number)
        self.promises.pop(number)

    def keep(self, number, text):
        self.need_promise(number)
        rule = rule_of(text)
        if self.promises[number][2] != self.today():
            raise NotToday("the promise is for another day")
        rows = self.rows_for([number], rule)
        self.go_out([number], rows)
        return [row[1:] for row in rows]

    def wave(self, text):
        rows = self.planned(text)
        self.go_out(self.due_today(), rows)
        return rows

    def planned(self, text):
        return self.rows_for(self.due_today(), rule_of(text))

    def open_ones(self):
        return [(number,) + triple for number, triple in self.promises.items()]

    def free(self, ware, day):
        need_ware(ware)
        self.need_coming(day)
        return free(stock_of(self.pieces(ware)), asks_of(self.promises, ware), day)

    def pieces(self, ware):
        return pieces_of(self.house, ware, self.today())

    def due_today(self):
        return [number for number in self.promises if self.promises[number][2] == self.today()]

    def need_coming(self, day):
        need_day(day)
        if day < self.today():
            raise NoDay("the day is over")

    def need_promise(self, number):
        # True is no number, and what can't be a dict's key must not be looked for there.
        if not is_whole(number, 0, self.let_by - 1) or number not in self.promises:
            raise NoPromise("no promise of that number is open")

    def need_kept(self, lot, spot, left):
        ware = self.lots()[lot][0]
        stock = []
        for where, other, amount, due, came in self.pieces(ware):
            stock.append((due, left if (where, other) == (spot, lot) else amount))
        if not keepable(stock, asks_of(self.promises, ware)):
            raise Broken("a promise could not be kept behind that")

    # Reckoned on copies: planned tells what a wave would fetch without doing it.
    def rows_for(self, numbers, rule):
        still = dict(self.promises)
        lies = {}
        told = []
        for number in numbers:
            triple = still.pop(number)
            ware = triple[0]
            if ware not in lies:
                lies[ware] = self.pieces(ware)
            rows = kept_rows(lies[ware], asks_of(still, ware), triple[1], rule)
            lies[ware] = pieces_behind(lies[ware], rows)
            told.extend([(number,) + row for row in rows])
        return told

    # By the house's own go: in the midst of a keep the promise itself must not stand in the way.
    def go_out(self, numbers, rows):
        for number, spot, lot, amount in rows:
            self.house.go(lot, spot, amount)
        for number in numbers:
            self.promises.pop(number)
