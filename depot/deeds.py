"""Deeds: what a row of text tells a store to do, a class for each word."""

from depot.errands import errand
from depot.errors import NoRow
from depot.needs import need_bin
from depot.phrases import FORMS, things_of, words_in
from depot.texts import rows_text
from depot.walks import length, stops


class Deed:
    # The things are those of the row, in its order; a deed keeps nothing else, so it can be done to any store, again.
    def __init__(self, things):
        self.things = tuple(things)

    # A deed of no word does nothing, as a row without words does.
    def do(self, store):
        return ""


class Come(Deed):
    def do(self, store):
        return str(store.come(self.things[0], self.things[1], self.things[2], self.things[3]))


class Go(Deed):
    def do(self, store):
        store.go(self.things[0], self.things[1], self.things[2])
        return "ok"


class Move(Deed):
    def do(self, store):
        store.move(self.things[0], self.things[1], self.things[2], self.things[3])
        return "ok"


class Count(Deed):
    def do(self, store):
        return str(store.count(self.things[0], self.things[1], self.things[2]))


class Day(Deed):
    def do(self, store):
        return str(store.next_day())


class Promise(Deed):
    def do(self, store):
        return str(store.promise(self.things[0], self.things[1], self.things[2]))


class Drop(Deed):
    def do(self, store):
        store.drop(self.things[0])
        return "ok"


class Free(Deed):
    def do(self, store):
        return str(store.free(self.things[0], self.things[1]))


class Keep(Deed):
    def do(self, store):
        return rows_text(store.keep(self.things[0], self.things[1]))


class Wave(Deed):
    def do(self, store):
        return rows_text(store.wave(self.things[0]))


class Walk(Deed):
    def do(self, store):
        plan = store.plan()
        rows = [row[1:] for row in store.planned(self.things[0])]
        spots = errand(plan, rows)[0]
        names = stops(plan, spots, [row[0] for row in rows])
        return rows_text([[length(plan, spots)] + names])


class In(Deed):
    def do(self, store):
        # Without this look a bin that the plan lacks would be told as an empty one.
        need_bin(store.plan(), self.things[0])
        return rows_text(list(store.lying().get(self.things[0], {}).items()))


class Of(Deed):
    def do(self, store):
        return str(store.total(self.things[0]))


def deed_by(word, things):
    if word == "come":
        return Come(things)
    if word == "go":
        return Go(things)
    if word == "move":
        return Move(things)
    if word == "count":
        return Count(things)
    if word == "day":
        return Day(things)
    if word == "promise":
        return Promise(things)
    if word == "drop":
        return Drop(things)
    if word == "free":
        return Free(things)
    if word == "keep":
        return Keep(things)
    if word == "wave":
        return Wave(things)
    if word == "walk":
        return Walk(things)
    if word == "in":
        return In(things)
    return Of(things)


def deed_of(text):
    if not isinstance(text, str):
        raise NoRow("a text is wanted")
    words = words_in(text)
    if len(words) == 0 or words[0] not in FORMS:
        raise NoRow("one of the thirteen words is wanted first")
    return deed_by(words[0], things_of(FORMS[words[0]], words[1:]))
