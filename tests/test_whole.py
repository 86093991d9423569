"""What holds over the whole program: drawn rows told to a desk, beside a plain reckoning."""

import copy
import random
import unittest

from helper import FORMS, REFUSALS, RULES, DeskReckoning, can_keep, name_of, some_store_deed

from depot.asks import keepable
from depot.deeds import deed_of
from depot.desk import Desk
from depot.errors import DepotError
from depot.ledger import house_of, left_of, lying_by
from depot.picking import pieces_of
from depot.stores import Store

# Words that make a row none, and words that are the store's to refuse, by what is wanted there.
NONE = {
    "n": ["x", "-1", "+1", "1.", "12345678", "00000001", "1a", "a01", "#", "0x1", "1_0", ";"],
    "b": ["a00", "a1", "a001", "1", "a", "aa1", "aa01", "01a", "a-1", "#01", "due"],
}
WRONG = {
    "w": ["oats1", "abcdefghijklm", "-", "7", "o_ts", "#", "wheat"],
    "n": ["9999999", "10000", "1000001", "0", "0000000", "1000", "999"],
    "b": ["z99", "a99", "z01"],
    "r": ["ware", "due due", "due -due", "--due", "-", "due amount x", "due came amount aisle place lot due",
          "due # so"],
}
IDLE = ["", "   ", "#", "  # day", "#wave due"]
BEGUN = ["x", "dy", "come1", "-", "planned", "total", "next_day"]
WORDS = {"next_day": "day", "planned": "walk"}


def some_words(reckoning, chance):
    """The words of a row that can mostly be done."""
    deed, things = some_store_deed(reckoning, chance, 10 ** 9)
    if len(reckoning.today_ones()) > 1 and chance.randrange(3) == 0:
        rule = chance.choice(RULES)
        deed, things = chance.choice([("walk", [rule]), ("wave", [rule]), ("keep", [reckoning.today_ones()[0], rule])])
    elif chance.randrange(12) == 0:
        place = (chance.randrange(reckoning.plan[0]), chance.randrange(1, reckoning.plan[1] + 1))
        deed, things = chance.choice([("in", [place]), ("of", [chance.choice(["oats", "rye", "wheat"])])])
    texts = [name_of(thing) if type(thing) is tuple else str(thing) for thing in things]
    return [WORDS.get(deed, deed)] + texts


def spoiled(words, chance):
    """The words with something amiss: one is left out or too many, or stands for what is none."""
    form, place = FORMS.get(words[0], ""), chance.randrange(len(words))
    if place == 0 or place > len(form):
        more = chance.choice(["1", "#", "due", "x", "a01"])
        return chance.choice([[chance.choice(BEGUN)] + words[1:], words[:-1], words + [more], words + words])
    slot = form[place - 1]
    wrong = chance.choice(WRONG[slot] + NONE.get(slot, [])[:chance.choice([0, 0, 99])])
    return words[:place] + [wrong] + words[place + 1:]


def written(words, chance):
    """A row of the words, with blanks, great letters and noughts ahead."""
    text = " " * chance.choice([0, 0, 1, 3])
    for word in words:
        word = word.zfill(chance.choice([1, 1, 3, 7])) if word.isdigit() else word
        text += word + " " * chance.choice([1, 1, 1, 2, 5])
    return "".join(sign.upper() if chance.randrange(3) == 0 else sign for sign in text[:chance.choice([-1, len(text)])])


def some_row(reckoning, chance):
    words = some_words(reckoning, chance)
    turns = chance.choice([0] * 8 + [1, 1, 2, 3])
    if turns == 3 and chance.randrange(2):
        return chance.choice(IDLE + [None, 7, ["day"], True])
    for turn in range(turns):
        words = spoiled(words, chance) or ["#"]
    return written(words, chance)


class Told:
    """A desk asked by answers, one by say, and a store done to by deeds: each row is told to all three."""

    def __init__(self, plan, room):
        self.by_answers, self.by_say, self.store = Desk(plan, room), Desk(plan, room), Store(plan, room)

    def tell(self, text):
        told = self.by_answers.answers([text]) + [self.outcome(lambda: self.by_say.say(text))]
        if told[0] != "":
            told.append(self.outcome(lambda: deed_of(text).do(self.store)))
        return told

    def outcome(self, call):
        try:
            return call()
        except DepotError as error:
            return "no " + [word for word in REFUSALS if REFUSALS[word] is type(error)][0]


class Whole(unittest.TestCase):
    def bins(self, plan):
        return [(aisle, place) for aisle in range(plan[0]) for place in range(1, plan[1] + 1)]

    def same_state(self, told, reckoning):
        """What lies by in and by of, and what the ledger's rows tell of it."""
        spots = self.bins(reckoning.plan)
        inside = [told.by_answers.say("in " + name_of(spot)) for spot in spots]
        right = ["; ".join("%d %d" % pair for pair in reckoning.inside(spot)) or "none" for spot in spots]
        self.assertEqual(inside, right)
        wares = ["oats", "rye", "wheat"]
        grains = [str(reckoning.total(ware, 0)) for ware in wares]
        self.assertEqual([told.by_say.say("of " + ware) for ware in wares], grains)
        store = told.store
        self.assertEqual(store.lying(), reckoning.lying())
        self.assertEqual(store.rows(), reckoning.rows)
        self.assertEqual(store.open_ones(), reckoning.open_ones())

    def promises_hold(self, store):
        """That all open promises can be kept: grain by grain, and as the program itself tells."""
        for ware in {ware for number, ware, amount, day in store.open_ones()}:
            stock = [(due, amount) for spot, lot, amount, due, came in pieces_of(store, ware, store.today())]
            asks = [(day, amount) for number, other, amount, day in store.open_ones() if other == ware]
            self.assertTrue(can_keep(stock, asks))
            self.assertTrue(keepable(stock, asks))

    def ledger_holds(self, store, plan, room):
        rows = store.rows()
        lying = store.lying()
        self.assertEqual(lying_by(rows), lying)
        for lot in range(len(store.lots())):
            came = sum(row[5] for row in rows if row[0] == "come" and row[1] == lot)
            found = sum(row[4] - row[3] for row in rows if row[0] == "count" and row[1] == lot)
            went = sum(row[3] for row in rows if row[0] == "go" and row[1] == lot)
            self.assertEqual(sum(held.get(lot, 0) for held in lying.values()), came + found - went)
            self.assertEqual(left_of(rows, lot), came + found - went)
        house = house_of(rows, plan, room)
        self.assertEqual((house.rows(), house.lying(), house.today()), (rows, lying, store.today()))

    def all_are_kept_in_the_end(self, desk, reckoning, text):
        """On a copy: day by day all open promises go out by waves, and none is refused."""
        desk, reckoning = copy.deepcopy(desk), copy.deepcopy(reckoning)
        last = max([day for ware, amount, day in reckoning.promises.values()], default=reckoning.day)
        while reckoning.day < last:
            self.assertEqual([desk.say("wave " + text)], reckoning.right("wave " + text))
            self.assertEqual([desk.say("day")], reckoning.right("day"))
        self.assertEqual([desk.say("wave " + text)], reckoning.right("wave " + text))
        self.assertEqual(reckoning.promises, {})

    def test_drawn_rows(self):
        met = set()
        for seed in range(80):
            chance = random.Random(seed)
            plan = (chance.randrange(1, 6), chance.randrange(1, 5), chance.randrange(1, 6))
            room = chance.choice([6, 12, 20])
            told, reckoning = Told(plan, room), DeskReckoning(plan, room)
            for turn in range(120):
                text = some_row(reckoning, chance)
                kept = copy.deepcopy(text)
                right = reckoning.right(text)
                for answer in told.tell(text):
                    self.assertIn(answer, right, (seed, turn, text))
                self.assertEqual(text, kept)
                met.add(right[0] if right[0].startswith("no ") else str(text).lower().split(" ")[0])
                self.same_state(told, reckoning)
                self.promises_hold(told.store)
            self.ledger_holds(told.store, plan, room)
            self.all_are_kept_in_the_end(told.by_answers, reckoning, chance.choice(RULES))
        # That the drawn rows did all there is to do, and met each refusal that a row can bring.
        self.assertEqual([word for word in FORMS if word not in met], [])
        self.assertEqual([word for word in REFUSALS if "no " + word not in met], ["plan", "name"])

    def test_many_rows_of_one_desk_told_at_once(self):
        for seed in range(8):
            chance = random.Random(seed)
            plan, room = (3, 4, 2), 30
            reckoning = DeskReckoning(plan, room)
            rows, right = [], []
            for turn in range(250):
                rows.append(some_row(reckoning, chance))
                right.append(reckoning.right(rows[-1]))
            told = Desk(plan, room).answers(rows)
            self.assertEqual([number for number in range(250) if told[number] not in right[number]], [])
            self.assertEqual(Desk(plan, room).answers(rows), told)

    def test_the_greatest_plan_and_a_ware_in_two_hundred_pieces(self):
        plan = (26, 99, 20)
        chance = random.Random(7)
        told, reckoning = Told(plan, 50), DeskReckoning(plan, 50)
        every = self.bins(plan)
        for spot in chance.sample(every, 200):
            text = "come oats %d %s %d" % (chance.randrange(9), name_of(spot), chance.randrange(1, 9))
            self.assertEqual(told.tell(text), reckoning.right(text) * 3)
        for turn in range(40):
            text = "promise oats %d %d" % (chance.randrange(1, 20), chance.choice([0, 0, 3, 6, 8]))
            self.assertEqual(told.tell(text), reckoning.right(text) * 3)
        ahead = told.store.lying()
        walked = told.by_say.say("walk -due amount").split(" ")
        self.assertEqual(told.store.lying(), ahead)
        waved = told.tell("wave -due amount")
        self.assertEqual(waved, reckoning.right("wave -due amount") * 3)
        names = {row.split(" ")[1] for row in waved[0].split("; ")}
        self.assertEqual(sorted(walked[1:]), sorted(names))
        self.promises_hold(told.store)
        self.ledger_holds(told.store, plan, 50)


if __name__ == "__main__":
    unittest.main()
