"""The desk: rows of text in, texts out."""

from depot.deeds import deed_of
from depot.errors import DepotError
from depot.phrases import is_idle
from depot.stores import Store
from depot.texts import word_of


class Desk:
    def __init__(self, plan, room=1000):
        self.store = Store(plan, room)

    def say(self, text):
        if is_idle(text):
            return ""
        return deed_of(text).do(self.store)

    def answer(self, text):
        try:
            return self.say(text)
        except DepotError as error:
            return "no " + word_of(error)

    def answers(self, texts):
        return [self.answer(text) for text in texts]
