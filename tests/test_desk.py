import random
import unittest

from helper import (
    FORMS, REFUSALS, RULES, DeskReckoning, ladder, name_of, odd_things, rows_as_text, shown, told_by, wrong_plans,
)

from depot.desk import Desk
from depot.errors import (
    Broken, DepotError, NoAmount, NoBin, NoDay, NoLot, NoPlan, NoPromise, NoRoom, NoRow, NoRule, NotToday, NoWare,
    StillOpen, TooLittle,
)
from depot.plans import bins_of
from depot.stores import Store
from depot.walks import length, stops, walk

PLAN = (3, 9, 4)

# Told to a desk one behind the other, each with its answer.
TALK = [
    ("come oats 9 A08 10", "0"), ("come oats 2 C03 10", "1"), ("come rye 0 A08 4", "2"), ("promise oats 7 0", "0"),
    ("promise oats 6 5", "1"), ("in a08", "0 10; 2 4"), ("in b01", "none"), ("of oats", "20"), ("free oats 0", "7"),
    ("walk -due", "36 A08 C03"), ("wave -due", "0 A08 0 4; 0 C03 1 3"), ("wave -due", "none"), ("walk -due", "0"),
    ("in a08", "0 6; 2 4"), ("go 2 a08 1", "ok"), ("move 2 a08 b01 2", "ok"), ("in B01", "2 2"), ("count 2 b01 9", "7"),
    ("count 2 b01 0", "-9"), ("count 2 b01 0", "0"), ("day", "1"), ("of rye", "1"), ("free rye 1", "0"),
    ("promise oats 3 1", "2"), ("keep 2 lot", "C03 1 3"), ("drop 1", "ok"), ("promise oats 8 1", "3"),
    ("keep 3 -lot due", "C03 1 4; A08 0 4"), ("", ""), ("# end", ""),
]

# A row for each refusal that a row can bring, told to a desk behind filling() and each by itself.
REFUSED = [
    ("come oats1 9 a01 5", NoWare), ("come oats 10000 a01 5", NoDay), ("come oats 9 d01 5", NoBin),
    ("go 3 a08 1", NoLot), ("go 0 a08 0", NoAmount), ("come oats 9 a01 101", NoRoom), ("go 2 a08 5", TooLittle),
    ("wave ware", NoRule), ("drop 2", NoPromise), ("go 0 a08 5", Broken), ("keep 1 due", NotToday), ("day", StillOpen),
    ("dy", NoRow), ("in z99", NoBin), ("in a10", NoBin), ("of oats1", NoWare), ("walk due due", NoRule),
    ("free oats 10000", NoDay), ("count 0 a08 1000001", NoAmount), ("count 0 a08 5", Broken),
    ("promise oats 8 0", Broken), ("move 0 a08 a10 1", NoBin), ("keep 0 -", NoRule), ("keep 2 due", NoPromise),
    ("move 0 a08 b01 11", TooLittle), ("count 0 a08 97", NoRoom),
]

# Rows that are none, some of which a store would refuse as well.
NO_ROWS = [
    "x", "come", "come oats 9 a01", "come oats 9 a01 5 #", "come oats 9 a00 5", "come oats x a01 5", "go 0 a08 -1",
    "go 0 a08 12345678", "go 9 z99 x", "move 0 a08 2", "count 0 a08 +1", "count 0 a8 1", "day 1", "day # so",
    "promise oats 1", "promise oats 1 0 due", "drop", "drop x", "drop 0 0", "free oats", "free oats -1", "keep 0",
    "keep due", "wave", "walk", "in", "in aa1", "in a08 c03", "of", "of oats rye", "-", "day#", "none",
]


def filling():
    return [text for text, answer in TALK[:5]]


def filled():
    desk = Desk(PLAN, 100)
    desk.answers(filling())
    return desk


def filled_store():
    store = Store(PLAN, 100)
    store.come("oats", 9, (0, 8), 10)
    store.come("oats", 2, (2, 3), 10)
    store.come("rye", 0, (0, 8), 4)
    store.promise("oats", 7, 0)
    store.promise("oats", 6, 5)
    return store


def seen(desk):
    """All that a desk tells without anything being done."""
    rows = ["in " + name_of(spot) for spot in bins_of(PLAN)] + ["of oats", "of rye", "of wheat"]
    rows += ["free %s %d" % (ware, day) for ware in ("oats", "rye") for day in range(9)]
    return desk.answers(rows + ["walk " + text for text in RULES])


class Case(unittest.TestCase):
    def refused(self, refusal, desk, text):
        ahead = seen(desk)
        with self.assertRaises(refusal, msg=shown(text)) as taken:
            desk.say(text)
        self.assertIs(type(taken.exception), refusal)
        self.assertEqual(seen(desk), ahead)


class Making(unittest.TestCase):
    def test_no_plan_ahead_of_no_amount(self):
        for plan in wrong_plans():
            for room in (1000, 0, None):
                with self.assertRaises(NoPlan, msg=shown(plan)):
                    Desk(plan, room)
            with self.assertRaises(NoPlan, msg=shown(plan)):
                Desk(plan)
        for room in [0, -1, 10 ** 6 + 1, "1000"] + odd_things():
            with self.assertRaises(NoAmount, msg=shown(room)):
                Desk(PLAN, room)

    def test_the_ends_of_plans_and_rooms(self):
        for plan in [(1, 1, 1), (26, 99, 20)]:
            for room in (1, 10 ** 6):
                self.assertEqual(Desk(plan=plan, room=room).say(text="in a01"), "none")

    def test_the_room_is_the_desk_s(self):
        desk = Desk(PLAN)
        self.assertEqual(desk.answers(["come oats 9 a01 1000", "come oats 9 a01 1"]), ["0", "no room"])
        desk = Desk(PLAN, 3)
        self.assertEqual(desk.answers(["come oats 9 a01 4", "come oats 9 a01 3"]), ["no room", "0"])

    def test_the_plan_is_the_desk_s(self):
        desk = Desk((2, 3, 1))
        self.assertEqual(desk.answers(["in b03", "in b04", "in c01"]), ["none", "no bin", "no bin"])
        self.assertEqual(Desk((26, 99, 20)).answers(["come oats 1 z99 5", "promise oats 5 0", "walk due"]),
                         ["0", "0", str(2 * (25 * 20 + 99)) + " Z99"])


class Saying(Case):
    def test_a_talk(self):
        desk = Desk(PLAN, 100)
        for text, answer in TALK:
            told = desk.say(text)
            self.assertEqual(told, answer, text)
            self.assertIs(type(told), str)

    def test_a_talk_in_great_letters_with_blanks_and_noughts(self):
        for seed in range(20):
            chance = random.Random(seed)
            desk = Desk(PLAN, 100)
            for text, answer in TALK:
                words = [word.zfill(chance.randrange(8)) if word.isdigit() else word for word in text.split()]
                text = "".join(" " * chance.randrange(1, 4) + word for word in words) + " " * chance.randrange(3)
                text = "".join(chance.choice([sign.upper(), sign]) for sign in text)
                self.assertEqual(desk.say(text), answer, text)

    def test_come_go_move_and_count_as_a_store_does(self):
        desk, store = filled(), filled_store()
        self.assertEqual(desk.say("come rye 9999 c09 100"), str(store.come("rye", 9999, (2, 9), 100)))
        self.assertEqual((desk.say("go 3 c09 40"), store.go(3, (2, 9), 40)), ("ok", None))
        self.assertEqual((desk.say("move 3 c09 a01 7"), store.move(3, (2, 9), (0, 1), 7)), ("ok", None))
        self.assertEqual((desk.say("move 3 c09 c09 7"), store.move(3, (2, 9), (2, 9), 7)), ("ok", None))
        for amount in (8, 7, 0, 0, 93, 1):
            self.assertEqual(desk.say("count 3 a01 %d" % amount), str(store.count(3, (0, 1), amount)))
        for spot in bins_of(PLAN):
            self.assertEqual(desk.say("in " + name_of(spot)), rows_as_text(list(store.lying().get(spot, {}).items())))

    def test_a_difference_below_nought(self):
        self.assertEqual([filled().say("count 2 a08 %d" % amount) for amount in (0, 3, 4, 5)], ["-4", "-1", "0", "1"])

    def test_promise_drop_and_free_as_a_store_does(self):
        desk, store = filled(), filled_store()
        for ware, amount, day in [("oats", 2, 1), ("rye", 4, 0), ("oats", 1, 0), ("oats", 4, 9)]:
            self.assertEqual(desk.say("promise %s %d %d" % (ware, amount, day)), str(store.promise(ware, amount, day)))
            for other in range(11):
                self.assertEqual(desk.say("free oats %d" % other), str(store.free("oats", other)))
                self.assertEqual(desk.say("free rye %d" % other), str(store.free("rye", other)))
        for number in (4, 1, 0):
            self.assertEqual((desk.say("drop %d" % number), store.drop(number)), ("ok", None))
            for other in range(11):
                self.assertEqual(desk.say("free oats %d" % other), str(store.free("oats", other)))

    def test_free_tells_more_than_a_promise_may_have(self):
        desk = Desk(PLAN, 10 ** 6)
        desk.answers(["come oats 9 a01 1000000", "come oats 9 a02 1000000"])
        self.assertEqual(desk.say("free oats 9"), "2000000")
        self.assertEqual(desk.say("of oats"), "2000000")

    def test_keep_and_wave_by_every_rule_as_a_store_does(self):
        for text in RULES + ["due came amount aisle place lot", "-lot -place -aisle -amount -came -due"]:
            desk, store = filled(), filled_store()
            self.assertEqual(desk.say("keep 0 " + text), rows_as_text(store.keep(0, text)))
            self.assertEqual([desk.say("promise oats 3 0"), desk.say("promise rye 2 0")], ["2", "3"])
            store.promise("oats", 3, 0)
            store.promise("rye", 2, 0)
            self.assertEqual(desk.say("wave " + text), rows_as_text(store.wave(text)))
            self.assertEqual(desk.say("in a08"), rows_as_text(list(store.lying()[(0, 8)].items())))
            self.assertEqual(desk.say("wave " + text), "none")

    def test_walk_as_the_errand_of_what_is_planned(self):
        for text in RULES:
            desk, store = filled(), filled_store()
            bins = [row[1] for row in store.planned(text)]
            spots = walk(PLAN, bins)
            names = [name_of(spot) for spot in stops(PLAN, spots, bins)]
            self.assertEqual(desk.say("walk " + text), " ".join([str(length(PLAN, spots))] + names))

    def test_walk_without_promises_for_today(self):
        self.assertEqual(Desk(PLAN).say("walk due"), "0")
        desk = filled()
        desk.say("drop 0")
        self.assertEqual(desk.say("walk due"), "0")

    def test_walk_tells_stops_in_its_own_order_not_by_bins(self):
        desk = Desk((4, 5, 3))
        for name in ("B01", "B05", "A05", "A01"):
            desk.say("come oats 9 " + name + " 1")
        desk.say("promise oats 4 0")
        for text in RULES:
            self.assertEqual(desk.say("walk " + text), "18 A01 A05 B05 B01")

    def test_in_tells_lots_by_their_numbers(self):
        desk = Desk(PLAN)
        desk.answers(["come oats 9 a0%d 5" % (1 + lot % 2) for lot in range(24)])
        self.assertEqual(desk.say("in a01"), "; ".join("%d 5" % lot for lot in range(0, 24, 2)))
        desk.answers(["move 3 a02 a01 5", "move 2 a01 a02 5", "move 23 a02 a01 1"])
        lots = [lot for lot in range(0, 24, 2) if lot != 2] + [3, 23]
        self.assertEqual(desk.say("in a01"), "; ".join("%d %d" % (lot, 1 if lot == 23 else 5) for lot in sorted(lots)))

    def test_of_tells_lots_that_are_good_no_more_too(self):
        desk = filled()
        desk.answers(["wave due"] + ["day"] * 3)
        self.assertEqual(desk.answers(["of oats", "of rye", "free rye 3"]), ["13", "4", "0"])


class Idle(Case):
    def test_rows_without_words_and_with_a_mark_ahead(self):
        desk = filled()
        ahead = seen(desk)
        for text in [
            "", " ", "      ", "#", " #", "# ", "##", "#day", "# day", "  # come oats 9 a01 5", "#wave due", "# #",
            "#" + "x" * 500, " " * 500 + "#",
        ]:
            self.assertEqual(desk.say(text), "", shown(text))
            self.assertEqual(desk.answers([text, text]), ["", ""])
        self.assertEqual(seen(desk), ahead)

    def test_a_mark_behind_a_word_is_none_ahead(self):
        for text in ["day #", "day # so", "x #", "in a01 #", "- #"]:
            self.refused(NoRow, filled(), text)


class Refused(Case):
    def test_what_the_store_refuses_comes_out_as_it_is(self):
        desk = filled()
        for text, refusal in REFUSED:
            self.refused(refusal, desk, text)

    def test_no_row_ahead_of_all(self):
        desk = filled()
        for text in NO_ROWS:
            self.refused(NoRow, desk, text)

    def test_what_is_no_text(self):
        desk = filled()
        for thing in [thing for thing in odd_things() if type(thing) is not str]:
            self.refused(NoRow, desk, thing)
        for thing in [7, ["day"], ("day",), b"day", b"", [], {"day": 1}, [""], ["#"], ("#",)]:
            self.refused(NoRow, desk, thing)

    def test_every_way_to_write_wrong_words(self):
        # Each row of right and wrong words beside one another: the row's own refusal first, then from the left.
        words = {
            "ware": ("oats", ["oats1", "abcdefghijklm"], NoWare), "day": ("9", ["10000", "9999999"], NoDay),
            "bin": ("a08", ["d08", "a10"], NoBin), "amount": ("1", ["0", "1000001"], NoAmount),
            "lot": ("0", ["3", "1000"], NoLot), "number": ("0", ["2", "9999999"], NoPromise),
            "rule": ("due", ["ware", "due -due", "#"], NoRule), "found": ("9", ["1000001", "9999999"], NoAmount),
        }
        rows = {
            "come": ["ware", "day", "bin", "amount"], "go": ["lot", "bin", "amount"],
            "move": ["lot", "bin", "bin", "amount"], "count": ["lot", "bin", "found"],
            "promise": ["ware", "amount", "day"], "drop": ["number"], "free": ["ware", "day"],
            "keep": ["number", "rule"], "wave": ["rule"], "walk": ["rule"], "in": ["bin"], "of": ["ware"],
        }
        self.assertEqual(sorted(rows), sorted(word for word in FORMS if word != "day"))
        desk = filled()
        ahead = seen(desk)
        for word, slots in rows.items():
            for things, due in ladder([words[slot] for slot in slots]):
                text = " ".join([word] + things)
                with self.assertRaises(due, msg=text):
                    desk.say(text)
                if "rule" not in slots:
                    with self.assertRaises(NoRow, msg=text):
                        desk.say(text + " x")
                for place, thing in enumerate(things):
                    if slots[place] not in ("ware", "rule"):
                        with self.assertRaises(NoRow, msg=text):
                            desk.say(" ".join([word] + things[:place] + ["-" + thing] + things[place + 1:]))
        self.assertEqual(seen(desk), ahead)


class Answers(Case):
    def test_a_talk(self):
        self.assertEqual(Desk(PLAN, 100).answers([text for text, answer in TALK]), [answer for text, answer in TALK])
        self.assertEqual(Desk(PLAN, 100).answers(texts=["day", "day"]), ["1", "2"])
        self.assertEqual(Desk(PLAN, 100).answers([]), [])

    def test_the_words_of_refusals(self):
        words = {refusal: word for word, refusal in REFUSALS.items()}
        desk = filled()
        ahead = seen(desk)
        told = desk.answers([text for text, refusal in REFUSED])
        self.assertEqual(told, ["no " + words[refusal] for text, refusal in REFUSED])
        self.assertEqual(seen(desk), ahead)
        # All words but plan and name, which no row can bring.
        right = ["no " + word for word in REFUSALS if word not in ("plan", "name")]
        self.assertEqual(sorted(set(told)), sorted(right))

    def test_no_row_of_what_is_no_row(self):
        self.assertEqual(filled().answers(NO_ROWS), ["no row"] * len(NO_ROWS))

    def test_no_row_of_what_is_no_text(self):
        things = [thing for thing in odd_things() if type(thing) is not str]
        self.assertEqual(filled().answers(things), ["no row"] * len(things))
        self.assertEqual(filled().answers([None, 7, ["day"], True, b"day", "day"]), ["no row"] * 5 + ["no open"])

    def test_behind_a_refused_row_the_next_ones_are_done(self):
        rows = ["come oats 9 a01 5", None, "go 0 a01 6", "go 0 a01 2", "x", "", "in a01"]
        self.assertEqual(Desk(PLAN).answers(rows), ["0", "no row", "no little", "ok", "no row", "", "0 3"])

    def test_as_say_tells_one_by_one(self):
        for seed in range(40):
            chance = random.Random(seed)
            rows = [chance.choice(TALK + REFUSED)[0] for turn in range(60)]
            one, other = Desk(PLAN, 100), Desk(PLAN, 100)
            told = []
            for text in rows:
                try:
                    told.append(other.say(text))
                except DepotError as error:
                    told.append("no " + [word for word in REFUSALS if REFUSALS[word] is type(error)][0])
            self.assertEqual(one.answers(rows), told)
            self.assertEqual(seen(one), seen(other))

    def test_the_list_handed_in_stays_and_the_one_told_is_the_askers_own(self):
        rows = ["come oats 9 a01 5", ["in a01"], "IN  a01", "x"]
        desk = Desk(PLAN)
        told = desk.answers(rows)
        self.assertEqual(rows, ["come oats 9 a01 5", ["in a01"], "IN  a01", "x"])
        self.assertEqual(told, ["0", "no row", "0 5", "no row"])
        self.assertIs(type(told), list)
        rows.clear()
        desk.answers(["day"])
        self.assertEqual(told, ["0", "no row", "0 5", "no row"])
        told.clear()
        self.assertEqual(desk.answers(["in a01", "day"]), ["0 5", "2"])
        none = []
        desk.answers(none).append("x")
        self.assertEqual((none, desk.answers([])), ([], []))


class Apart(Case):
    def test_two_desks_have_nothing_in_common(self):
        one, other = Desk(PLAN, 100), Desk(PLAN, 100)
        ahead = seen(other)
        for text, answer in TALK:
            self.assertEqual(one.say(text), answer)
        self.assertEqual(seen(other), ahead)
        self.assertEqual(other.answers([text for text, answer in TALK]), [answer for text, answer in TALK])

    def test_two_desks_told_in_turn(self):
        one, other = Desk(PLAN, 100), Desk(PLAN, 100)
        rows = [text for text, answer in TALK]
        alone = [answer for text, answer in TALK]
        told = []
        for text, late in zip(rows + [""] * 7, [""] * 7 + rows):
            told.append((one.say(text), other.say(late)))
        self.assertEqual([pair[0] for pair in told], alone + [""] * 7)
        self.assertEqual([pair[1] for pair in told], [""] * 7 + alone)


class WalkDoesNothing(Case):
    def bins_told(self, answer):
        return answer.split(" ")[1:]

    def test_a_wave_behind_it_fetches_from_just_the_bins_that_it_named(self):
        for seed in range(150):
            chance = random.Random(seed)
            desk, reckoning = Desk(PLAN, 100), DeskReckoning(PLAN, 100)
            for lot in range(chance.randrange(1, 12)):
                ware, due = chance.choice(["oats", "rye"]), chance.randrange(5)
                spot = chance.choice(bins_of(PLAN))
                row = "come %s %d %s %d" % (ware, due, name_of(spot), chance.randrange(1, 9))
                self.assertEqual([desk.say(row)], reckoning.right(row))
            for turn in range(6):
                ware, day = chance.choice(["oats", "rye"]), chance.choice([0, 0, 0, 1, 2])
                row = "promise %s %d %d" % (ware, chance.randrange(1, 6), day)
                self.assertEqual(desk.answers([row]), reckoning.right(row))
            text = chance.choice(RULES)
            ahead = seen(desk)
            told = desk.say("walk " + text)
            self.assertIn(told, reckoning.right("walk " + text))
            self.assertEqual([desk.say("walk " + text), seen(desk)], [told, ahead])
            inside = {name_of(spot): desk.say("in " + name_of(spot)) for spot in bins_of(PLAN)}
            waved = desk.say("wave " + text)
            rows = [row.split(" ") for row in waved.split("; ")] if waved != "none" else []
            self.assertEqual(sorted(self.bins_told(told)), sorted({row[1] for row in rows}))
            for name, held in inside.items():
                self.assertEqual(desk.say("in " + name), self.less(held, name, rows))

    def less(self, held, name, rows):
        """What a bin must hold behind rows of a wave, of what it held ahead of it."""
        stacks = {int(pair.split(" ")[0]): int(pair.split(" ")[1]) for pair in held.split("; ") if held != "none"}
        for number, where, lot, amount in rows:
            if where == name:
                stacks[int(lot)] -= int(amount)
        return "; ".join("%d %d" % stack for stack in sorted(stacks.items()) if stack[1]) or "none"


class Pattern(unittest.TestCase):
    def test_the_plain_pattern_of_rows_is_right_for_these(self):
        for text in NO_ROWS:
            self.assertIsNone(told_by(text), text)
        for text, refusal in REFUSED:
            self.assertEqual(told_by(text) is None, refusal is NoRow, text)


if __name__ == "__main__":
    unittest.main()
