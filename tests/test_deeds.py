import copy
import gc
import itertools
import random
import unittest

from helper import FORMS, odd_things, shown, told_by

from depot.deeds import Deed, deed_of
from depot.errors import (
    Broken, DepotError, NoAmount, NoBin, NoDay, NoLot, NoPromise, NoRoom, NoRow, NoRule, NotToday, NoWare, StillOpen,
    TooLittle,
)
from depot.stores import Store

PLAN = (3, 9, 4)

# A row of each word; all but day, which is StillOpen, can be done to a filled store.
RIGHT = {
    "come": "come oats 9 a01 5", "go": "go 0 a08 1", "move": "move 0 a08 b01 2", "count": "count 0 a08 9",
    "day": "day", "promise": "promise oats 2 1", "drop": "drop 1", "free": "free oats 1", "keep": "keep 0 due lot",
    "wave": "wave due", "walk": "walk -due", "in": "in a08", "of": "of oats",
}

WRONG_NUMBERS = [
    "x", "-1", "+1", "-0", "1-", "1.", "1.0", "1,0", "1e2", "1_0", "0x1", "00000000", "00000001", "12345678",
    "1" * 5000, "1a", "a1", "a01", "#", "#1", "1#", "due", "one", ";", "'1'", "1;",
]

WRONG_NAMES = [
    "a00", "z00", "a0", "a1", "a", "01", "001", "7", "a001", "a100", "aa1", "aa01", "ab7", "0a1", "01a", "a0b", "ab0",
    "a-1", "a+1", "-a1", "a.1", "#01", "#", "a01;", "a01#", "@01", "[01", "{01", "`01", "a/1", "a1:", "a01a01", "due",
]


def filled():
    """A store with two lots of oats, one of rye, and a promise for today and one for day 5."""
    store = Store(PLAN, 100)
    store.come("oats", 9, (0, 8), 10)
    store.come("oats", 2, (2, 3), 10)
    store.come("rye", 0, (0, 8), 4)
    store.promise("oats", 7, 0)
    store.promise("oats", 6, 5)
    return store


def seen(store):
    return store.rows(), store.lying(), store.open_ones(), store.today(), store.lots()


def outcome(text, store):
    """What a deed tells, or the refusal of it."""
    try:
        return deed_of(text).do(store)
    except DepotError as error:
        return type(error)


class Case(unittest.TestCase):
    def no_row(self, text):
        with self.assertRaises(NoRow, msg=shown(text)):
            deed_of(text)

    def refused(self, refusal, store, text):
        ahead = seen(store)
        deed = deed_of(text)
        with self.assertRaises(refusal, msg=text):
            deed.do(store)
        self.assertEqual(seen(store), ahead)

    def same(self, text, call):
        """A deed tells a text and does to a store what a call of its methods does to one beside it."""
        store, beside = filled(), filled()
        answer = deed_of(text).do(store)
        self.assertEqual(answer, call(beside), text)
        self.assertIs(type(answer), str)
        self.assertEqual(seen(store), seen(beside), text)
        return answer


class Reading(Case):
    def test_each_word_has_a_class_of_its_own_below_deed(self):
        self.assertEqual(list(RIGHT), list(FORMS))
        kinds = [type(deed_of(text)) for text in RIGHT.values()]
        self.assertEqual(len(set(kinds)), 13)
        for kind in kinds:
            self.assertTrue(issubclass(kind, Deed))
            self.assertIsNot(kind, Deed)
        self.assertTrue(callable(Deed.do))
        self.assertEqual(type(deed_of("go 0 a01 1")), type(deed_of("GO  5 z99 7")))

    def test_a_deed_of_no_word_does_nothing(self):
        store = filled()
        self.assertEqual(Deed([]).do(store), "")
        self.assertEqual(seen(store), seen(filled()))

    def test_the_argument_s_name(self):
        self.assertIsInstance(deed_of(text="day"), Deed)

    def test_blanks_ahead_behind_and_between(self):
        for word, text in RIGHT.items():
            beside = filled()
            right = outcome(text, beside)
            for wide in (" " + text, text + " ", "     " + text + "   ", text.replace(" ", "  "),
                         "  " + text.replace(" ", "       ") + " "):
                store = filled()
                self.assertEqual(outcome(wide, store), right, wide)
                self.assertEqual(seen(store), seen(beside))

    def test_great_letters(self):
        for word, text in RIGHT.items():
            for great in (text.upper(), text.title(), text.swapcase(), text[0].upper() + text[1:]):
                store, beside = filled(), filled()
                self.assertEqual(outcome(great, store), outcome(text, beside), great)
                self.assertEqual(seen(store), seen(beside))

    def test_noughts_ahead(self):
        for word, text in RIGHT.items():
            long = " ".join(part.zfill(7) if part.isdigit() else part for part in text.split(" "))
            store, beside = filled(), filled()
            self.assertEqual(outcome(long, store), outcome(text, beside), long)
            self.assertEqual(seen(store), seen(beside))

    def test_numbers_of_seven_figures_are_read_and_of_eight_are_not(self):
        for word, form in FORMS.items():
            for place, slot in enumerate(form):
                if slot == "n":
                    parts = RIGHT[word].split(" ")
                    for part in ("9999999", "0000000", "0000001", "1000000", "0"):
                        self.assertIsInstance(deed_of(" ".join(parts[:place + 1] + [part] + parts[place + 2:])), Deed)
                    for part in ("99999999", "00000000", "00000001"):
                        self.no_row(" ".join(parts[:place + 1] + [part] + parts[place + 2:]))

    def test_every_bin_s_name(self):
        for letter in "abcdefghijklmnopqrstuvwxyz":
            for place in range(100):
                name = "%s%02d" % (letter, place)
                if place:
                    self.assertIsInstance(deed_of("in " + name), Deed)
                    self.assertIsInstance(deed_of("move 0 " + name.upper() + " " + name + " 1"), Deed)
                else:
                    self.no_row("in " + name)

    def test_what_the_store_is_to_refuse_is_a_row(self):
        for text in [
            "of 7", "of -", "of oats1", "of abcdefghijklmnop", "of #", "of a01", "wave ware", "wave due due", "wave -",
            "wave #", "wave due # so", "wave 7", "wave a b c d e f g h", "keep 9999999 due", "drop 9999999",
            "keep 0 due due due due due due due", "walk ;", "come # 9999999 z99 0000000", "free 1 0000000",
            "go 9999999 z99 0", "promise ! 0 9999999", "count 9999999 z99 9999999",
        ]:
            self.assertIsInstance(deed_of(text), Deed, text)


class NoRows(Case):
    def test_another_word_first(self):
        for text in [
            "x", "comes oats 9 a01 5", "com oats 9 a01 5", "oats 9 a01 5", "0", "days", "next_day", "ok", "none",
            "put 0 a01 1", "take 0 a01 1", "planned due", "rest oats 1", "total oats", "day:", "-day", "d ay",
            "c ome oats 9 a01 5", "c", "-", ";", "a01", "due", "lot 0", "help", "inn a01", "o f oats", "i",
        ]:
            self.no_row(text)

    def test_too_few_words_and_too_many(self):
        for word, text in RIGHT.items():
            parts = text.split(" ")
            for number in range(len(parts)):
                short = " ".join(parts[:number])
                if not (FORMS[word].endswith("r") and number > len(FORMS[word])):
                    self.no_row(short)
                    self.no_row(" " + short + "   ")
            if not FORMS[word].endswith("r"):
                for more in ("1", "#", "# so", "x", "due", "a01", "; " + text, text, "1 1 1"):
                    self.no_row(text + " " + more)
                    self.no_row(text + "   " + more + " ")

    def test_a_word_left_out_in_the_midst(self):
        for text in [
            "come 9 a01 5", "come oats a01 5", "come oats 9 5", "go a08 1", "go 0 1", "move 0 a08 2", "move a08 b01 2",
            "count a08 9", "count 0 9", "promise 2 1", "free 1", "keep due lot", "keep due",
        ]:
            self.no_row(text)

    def test_no_figures_where_a_number_is_wanted(self):
        for word, form in FORMS.items():
            parts = RIGHT[word].split(" ")
            for place, slot in enumerate(form):
                if slot == "n":
                    for wrong in WRONG_NUMBERS:
                        self.no_row(" ".join(parts[:place + 1] + [wrong] + parts[place + 2:]))

    def test_no_bin_s_name_where_a_bin_is(self):
        for word, form in FORMS.items():
            parts = RIGHT[word].split(" ")
            for place, slot in enumerate(form):
                if slot == "b":
                    for wrong in WRONG_NAMES:
                        self.no_row(" ".join(parts[:place + 1] + [wrong] + parts[place + 2:]))

    def test_words_run_together_or_torn(self):
        for text in [
            "comeoats 9 a01 5", "come oats9 a01 5", "go 0a08 1", "go 0 a081", "go 0 a 08 1", "go 0 a08 1 0", "in a 08",
            "ina08", "ofoats", "of oats rye", "drop1", "drop 1 2", "free oats1", "go,0,a08,1",
        ]:
            self.no_row(text)

    def test_no_words(self):
        for text in ["", " ", "  ", " " * 1000]:
            self.no_row(text)

    def test_a_mark_ahead(self):
        for text in ["#", "  #", "# ", "##", "#day", "# day", "   # come oats 9 a01 5", "#come oats 9 a01 5", "# # #"]:
            self.no_row(text)

    def test_what_is_no_text(self):
        for thing in [thing for thing in odd_things() if type(thing) is not str]:
            self.no_row(thing)
        for thing in [
            7, ["day"], ("day",), {"day": 1}, b"day", ["d", "a", "y"], ["come", "oats", "9", "a01", "5"], Deed,
            deed_of("day"),
        ]:
            self.no_row(thing)
        for text in [text for text in odd_things() if type(text) is str]:
            self.no_row(text)

    def test_no_row_ahead_of_all_that_a_store_refuses(self):
        for text in [
            "come Oats1 99999 z99 0 1", "come oats1 x z99 0", "go 999 z99 x", "go 999 a00 1", "move x a01 a02 1",
            "count 999 z99 -1", "promise oats1 0 x", "drop -1", "free oats1 x", "keep 999", "keep x ware", "in a00",
        ]:
            self.no_row(text)

    def test_every_row_of_few_short_words(self):
        # All rows of up to four words out of some: what is a row and what is none, by one pattern for each word.
        some = ["go", "in", "day", "keep", "0", "a01", "due"]
        for number in range(1, 5):
            for words in itertools.product(some, repeat=number):
                text = " ".join(words)
                if told_by(text):
                    self.assertIsInstance(deed_of(text), Deed, text)
                else:
                    self.no_row(text)

    def test_drawn_signs(self):
        signs = [chr(number) for number in range(32, 127)]
        for seed in range(3000):
            chance = random.Random(seed)
            text = chance.choice(list(RIGHT.values()))
            for turn in range(chance.randrange(1, 4)):
                place = chance.randrange(len(text) + 1)
                text = text[:place] + chance.choice(signs) + text[place + chance.randrange(2):]
            if told_by(text):
                self.assertIsInstance(deed_of(text), Deed, text)
            else:
                self.no_row(text)


class Doing(Case):
    def test_come(self):
        self.assertEqual(self.same("come rye 5 b07 3", lambda store: str(store.come("rye", 5, (1, 7), 3))), "3")
        self.same("come oats 9999 c09 100", lambda store: str(store.come("oats", 9999, (2, 9), 100)))

    def test_go(self):
        self.assertEqual(self.same("go 0 a08 1", lambda store: store.go(0, (0, 8), 1) or "ok"), "ok")
        self.same("go 2 A08 4", lambda store: store.go(2, (0, 8), 4) or "ok")

    def test_move(self):
        self.assertEqual(self.same("move 0 a08 b01 2", lambda store: store.move(0, (0, 8), (1, 1), 2) or "ok"), "ok")
        self.same("move 1 c03 c03 10", lambda store: store.move(1, (2, 3), (2, 3), 10) or "ok")

    def test_count(self):
        self.assertEqual(self.same("count 0 a08 12", lambda store: str(store.count(0, (0, 8), 12))), "2")
        self.assertEqual(self.same("count 0 a08 10", lambda store: str(store.count(0, (0, 8), 10))), "0")
        self.assertEqual(self.same("count 2 a08 0", lambda store: str(store.count(2, (0, 8), 0))), "-4")
        self.assertEqual(self.same("count 2 a08 1", lambda store: str(store.count(2, (0, 8), 1))), "-3")
        self.assertEqual(self.same("count 2 a01 0", lambda store: str(store.count(2, (0, 1), 0))), "0")

    def test_day(self):
        store = Store(PLAN)
        self.assertEqual([deed_of("day").do(store) for turn in range(12)], [str(day) for day in range(1, 13)])
        self.assertEqual(store.today(), 12)

    def test_promise(self):
        self.assertEqual(self.same("promise oats 2 1", lambda store: str(store.promise("oats", 2, 1))), "2")
        self.same("promise rye 4 0", lambda store: str(store.promise("rye", 4, 0)))

    def test_drop(self):
        self.assertEqual(self.same("drop 1", lambda store: store.drop(1) or "ok"), "ok")

    def test_free(self):
        for day in (0, 1, 2, 3, 5, 9, 10):
            self.same("free oats %d" % day, lambda store: str(store.free("oats", day)))
        self.assertEqual(self.same("free oats 0", lambda store: str(store.free("oats", 0))), "7")
        self.assertEqual(self.same("free wheat 0", lambda store: "0"), "0")

    def test_keep(self):
        def kept(store):
            self.assertEqual(store.keep(0, "-due"), [((0, 8), 0, 4), ((2, 3), 1, 3)])
            return "A08 0 4; C03 1 3"

        self.same("keep 0 -due", kept)
        self.assertEqual(deed_of("keep 0 due").do(filled()), "C03 1 7")
        self.assertEqual(deed_of("keep 0 came -amount   aisle place LOT due").do(filled()), "A08 0 4; C03 1 3")

    def test_wave(self):
        def waved(store):
            self.assertEqual(store.wave("-due"), [(0, (0, 8), 0, 4), (0, (2, 3), 1, 3)])
            return "0 A08 0 4; 0 C03 1 3"

        self.same("wave -due", waved)
        store = filled()
        store.promise("rye", 3, 0)
        self.assertEqual(deed_of("wave due").do(store), "0 C03 1 7; 2 A08 2 3")
        self.assertEqual(deed_of("wave due").do(store), "none")
        self.assertEqual(deed_of("wave due").do(Store(PLAN)), "none")

    def test_walk(self):
        self.assertEqual(self.same("walk -due", lambda store: "36 A08 C03"), "36 A08 C03")
        self.assertEqual(self.same("walk due", lambda store: "22 C03"), "22 C03")
        self.assertEqual(deed_of("walk due").do(Store(PLAN)), "0")
        store = filled()
        store.drop(0)
        self.assertEqual(deed_of("walk due").do(store), "0")

    def test_walk_names_a_bin_of_several_lots_once(self):
        store = filled()
        store.promise("rye", 3, 0)
        self.assertEqual(deed_of("walk -due").do(store), "36 A08 C03")
        self.assertEqual(deed_of("wave -due").do(store), "0 A08 0 4; 0 C03 1 3; 2 A08 2 3")

    def test_in(self):
        self.assertEqual(self.same("in a08", lambda store: "0 10; 2 4"), "0 10; 2 4")
        self.same("in c03", lambda store: "1 10")
        self.same("in a01", lambda store: "none")
        self.same("in C09", lambda store: "none")

    def test_in_is_by_lots_as_numbers(self):
        store = Store(PLAN)
        for lot in range(12):
            store.come("oats", 5, (0, 1), 20 - lot)
        store.go(1, (0, 1), 19)
        right = "; ".join("%d %d" % (lot, 20 - lot) for lot in range(12) if lot != 1)
        self.assertEqual(deed_of("in a01").do(store), right)

    def test_of(self):
        self.assertEqual(self.same("of oats", lambda store: "20"), "20")
        self.same("of rye", lambda store: "4")
        self.same("of wheat", lambda store: "0")

    def test_of_tells_lots_that_are_good_no_more_too(self):
        store = filled()
        store.wave("due")
        store.next_day()
        self.assertEqual([deed_of("of rye").do(store), deed_of("free rye 1").do(store)], ["4", "0"])

    def test_the_thirteen_after_one_another(self):
        store = Store(PLAN, 20)
        rows = [
            ("come oats 3 a01 10", "0"), ("come oats 1 b09 10", "1"), ("promise oats 5 0", "0"),
            ("promise oats 8 2", "1"), ("free oats 0", "7"), ("free oats 2", "2"), ("move 0 a01 a02 4", "ok"),
            ("in a02", "0 4"), ("walk place", "28 A01 B09"), ("count 1 b09 9", "-1"), ("go 1 b09 1", "ok"),
            ("wave due", "0 B09 1 5"), ("day", "1"), ("drop 1", "ok"), ("promise oats 12 1", "2"),
            ("keep 2 aisle", "A01 0 6; A02 0 4; B09 1 2"), ("of oats", "1"),
        ]
        self.assertEqual([deed_of(text).do(store) for text, answer in rows], [answer for text, answer in rows])


class Refused(Case):
    def test_what_the_store_refuses_comes_out_as_it_is(self):
        for refusal, text in [
            (NoWare, "come oats1 9 a01 5"), (NoDay, "come oats 10000 a01 5"), (NoBin, "come oats 9 d01 5"),
            (NoBin, "come oats 9 a10 5"), (NoAmount, "come oats 9 a01 0"), (NoAmount, "come oats 9 a01 1000001"),
            (NoRoom, "come oats 9 a01 101"), (NoLot, "go 3 a08 1"), (NoBin, "go 0 d08 1"), (NoAmount, "go 0 a08 0"),
            (TooLittle, "go 2 a08 5"), (Broken, "go 0 a08 5"), (NoLot, "move 3 a08 b01 1"),
            (NoBin, "move 0 z08 b01 1"), (NoBin, "move 0 a08 b10 1"), (NoAmount, "move 0 a08 b01 9999999"),
            (TooLittle, "move 0 a08 b01 11"), (NoLot, "count 3 a08 1"), (NoBin, "count 0 z99 1"),
            (NoAmount, "count 0 a08 1000001"), (NoRoom, "count 0 a08 97"), (Broken, "count 0 a08 5"),
            (StillOpen, "day"), (NoWare, "promise abcdefghijklm 1 0"), (NoAmount, "promise oats 0 0"),
            (NoDay, "promise oats 1 10000"), (Broken, "promise oats 8 0"), (NoPromise, "drop 2"),
            (NoWare, "free o.ts 0"), (NoDay, "free oats 9999999"), (NoPromise, "keep 2 due"), (NoRule, "keep 0 ware"),
            (NoRule, "keep 0 due due"), (NotToday, "keep 1 due"), (NoRule, "wave -"), (NoRule, "wave due # so"),
            (NoRule, "walk due -due"), (NoBin, "in z99"), (NoBin, "in d01"), (NoBin, "in a10"), (NoWare, "of oats1"),
            (NoWare, "of abcdefghijklm"), (NoWare, "of 7"), (NoWare, "of #"),
        ]:
            self.refused(refusal, filled(), text)

    def test_no_day_behind_the_last_and_no_promise_for_a_day_that_is_over(self):
        store = Store(PLAN)
        for day in range(9999):
            store.next_day()
        self.refused(NoDay, store, "day")
        self.refused(NoDay, store, "promise oats 1 9998")
        self.refused(NoDay, store, "free oats 9998")
        self.refused(NoDay, store, "come oats 9998 a01 1")
        self.assertEqual(deed_of("free oats 9999").do(store), "0")

    def test_a_thousand_lots(self):
        store = Store(PLAN)
        for lot in range(1000):
            self.assertEqual(deed_of("come oats 5 %s 1" % ("a01" if lot < 900 else "b02")).do(store), str(lot))
        self.refused(NoLot, store, "come oats 5 c09 1")
        self.assertEqual(deed_of("go 999 b02 1").do(store), "ok")
        self.refused(NoLot, store, "go 1000 b02 1")

    def test_the_refusal_told_first(self):
        for refusal, text in [
            (NoWare, "come oats1 10000 z99 0"), (NoDay, "come oats 10000 z99 0"), (NoBin, "come oats 9 z99 0"),
            (NoAmount, "come oats 9 a01 0"), (NoLot, "go 9 z99 0"), (NoBin, "go 0 z99 0"), (NoLot, "move 9 z99 z99 0"),
            (NoBin, "move 0 a01 z99 0"), (NoAmount, "move 0 a01 a02 0"), (TooLittle, "move 0 a01 a02 1000"),
            (NoLot, "count 9 z99 1000001"), (NoBin, "count 0 z99 1000001"), (NoWare, "promise oats1 0 10000"),
            (NoAmount, "promise oats 0 10000"), (NoDay, "promise oats 1000000 10000"), (NoWare, "free oats1 10000"),
            (NoPromise, "keep 9 ware"), (NoRule, "keep 1 ware"), (NotToday, "keep 1 due"), (NoRoom, "count 1 c03 101"),
        ]:
            self.refused(refusal, filled(), text)


class Again(Case):
    def test_done_once_more_it_is_done_once_more(self):
        store = filled()
        deed = deed_of("come oats 9 a01 5")
        self.assertEqual([deed.do(store) for turn in range(4)], ["3", "4", "5", "6"])
        self.assertEqual(deed_of("in a01").do(store), "3 5; 4 5; 5 5; 6 5")
        deed = deed_of("go 3 a01 2")
        self.assertEqual([deed.do(store), deed.do(store)], ["ok", "ok"])
        with self.assertRaises(TooLittle):
            deed.do(store)
        self.assertEqual(deed_of("in a01").do(store), "3 1; 4 5; 5 5; 6 5")
        deed = deed_of("drop 1")
        deed.do(store)
        with self.assertRaises(NoPromise):
            deed.do(store)

    def test_what_is_asked_once_more_is_told_as_it_is_then(self):
        store = filled()
        asked = [deed_of(text) for text in ("in a08", "of oats", "free oats 0", "walk -due")]
        self.assertEqual([deed.do(store) for deed in asked], ["0 10; 2 4", "20", "7", "36 A08 C03"])
        deed_of("wave -due").do(store)
        deed_of("count 2 a08 0").do(store)
        self.assertEqual([deed.do(store) for deed in asked], ["0 6", "13", "7", "0"])

    def test_one_deed_done_to_two_stores(self):
        one, other = filled(), Store(PLAN)
        deed = deed_of("come rye 9 a01 5")
        self.assertEqual([deed.do(one), deed.do(other), deed.do(one), deed.do(other)], ["3", "0", "4", "1"])
        deed = deed_of("in a08")
        self.assertEqual([deed.do(one), deed.do(other), deed.do(one)], ["0 10; 2 4", "none", "0 10; 2 4"])
        deed = deed_of("wave due")
        self.assertEqual([deed.do(other), deed.do(one), deed.do(one)], ["none", "0 C03 1 7", "none"])

    def test_two_deeds_of_one_row_are_like_one_done_twice(self):
        one, other = filled(), filled()
        for text in RIGHT.values():
            deed = deed_of(text)
            for store, deeds in ((one, [deed, deed]), (other, [deed_of(text), deed_of(text)])):
                for again in deeds:
                    try:
                        again.do(store)
                    except DepotError:
                        pass
            self.assertEqual(seen(one), seen(other), text)

    def test_a_deed_keeps_nothing_of_the_store(self):
        for text in RIGHT.values():
            deed, store = deed_of(text), filled()
            kept = copy.deepcopy(vars(deed))
            if text == "day":
                store.drop(0)
            deed.do(store)
            self.assertEqual(vars(deed), kept, text)
            seen_ones, todo = {}, [deed]
            while todo:
                thing = todo.pop()
                if id(thing) not in seen_ones and not isinstance(thing, type):
                    seen_ones[id(thing)] = thing
                    todo += gc.get_referents(thing)
            self.assertNotIn(id(store), seen_ones)

    def test_a_refused_deed_can_be_done_later(self):
        store = filled()
        deed = deed_of("day")
        with self.assertRaises(StillOpen):
            deed.do(store)
        deed_of("wave due").do(store)
        self.assertEqual(deed.do(store), "1")


if __name__ == "__main__":
    unittest.main()
