"""How promises go out of a store: keep, wave and planned."""

import copy
import itertools
import random
import unittest

from helper import RULES, WRONG_NUMBERS, WRONG_RULES, StoreReckoning, can_keep, ladder, odd_things, shown

from depot.errors import Broken, NoPromise, NoRule, NotToday
from depot.stores import Store

PLAN = (3, 5, 4)


def seen(store):
    days = range(store.today(), store.today() + 8)
    return (
        store.plan(), store.today(), store.lots(), store.rows(), store.lying(), store.open_ones(),
        [store.free(ware, day) for ware in ("oats", "rye") for day in days],
    )


def filled(seed, room=12):
    """A store of some lots, and of promises as many as can be for today and later; the plain reckoning beside it."""
    chance = random.Random(seed)
    store, plain = Store(PLAN, room), StoreReckoning(PLAN, room)

    def both(deed, things):
        if not plain.refusal(deed, things):
            getattr(store, deed)(*things)
            getattr(plain, deed)(*things)

    spots = [(aisle, place) for aisle in range(3) for place in range(1, 6)]
    for turn in range(12):
        ware = chance.choice(["oats", "oats", "oats", "rye"])
        both("come", [ware, plain.day + chance.randrange(6), chance.choice(spots), chance.randrange(1, room)])
        both("move", [turn, chance.choice(spots), chance.choice(spots), 1 + chance.randrange(3)])
        if chance.randrange(6) == 0:
            both("next_day", [])
    for stack in sorted(plain.lies):
        both("move", [stack[1], stack[0], chance.choice(spots), max(1, plain.lies[stack] // 2)])
    # Some of the late grains are promised first, else none of them would be missed.
    for day in (5, 4, 2):
        both("promise", ["oats", max(1, plain.free("oats", plain.day + day) * 3 // 4), plain.day + day])
    for turn in range(chance.choice([3, 10, 20])):
        ware, day = chance.choice(["oats", "oats", "rye"]), plain.day + chance.choice([0, 0, 0, 1, 2, 3, 4, 5])
        both("promise", [ware, chance.choice([1, 3, 6, 10, plain.free(ware, day) or 1]), day])
    return store, plain, chance


class Case(unittest.TestCase):
    def refused(self, refusal, store, call, things):
        ahead = seen(store)
        with self.assertRaises(refusal, msg=[shown(thing) for thing in things]):
            call(*things)
        self.assertEqual(seen(store), ahead)


class Refused(Case):
    def store(self):
        """Open are 0 for today, 1 for day 3; 2 was dropped, 3 was kept."""
        store = Store(PLAN)
        store.come("oats", 5, (0, 1), 20)
        store.promise("oats", 2, 0)
        store.promise("oats", 3, 3)
        store.promise("oats", 4, 0)
        store.promise("oats", 5, 0)
        store.drop(2)
        store.keep(3, "due")
        return store

    def test_no_promise_then_no_rule_then_not_today(self):
        store = self.store()
        right = seen(store)
        rule = ("due", WRONG_RULES, NoRule)
        for number in (0, 1):
            for things, refusal in ladder([(number, WRONG_NUMBERS + [2, 3, 4, 5], NoPromise), rule]):
                with self.assertRaises(refusal, msg=things):
                    store.keep(*things)
        for thing in odd_things():
            for text in ("due", "", None):
                with self.assertRaises(NoPromise, msg=shown(thing)):
                    store.keep(thing, text)
            for number in (0, 1):
                with self.assertRaises(NoRule, msg=shown(thing)):
                    store.keep(number, thing)
        self.assertEqual(seen(store), right)

    def test_not_today(self):
        store = self.store()
        self.refused(NotToday, store, store.keep, [1, "due"])
        store.drop(0)
        for day in (1, 2):
            store.next_day()
            self.refused(NotToday, store, store.keep, [1, "due"])
        store.next_day()
        self.assertEqual(store.keep(1, "due"), [((0, 1), 0, 3)])
        self.refused(NoPromise, store, store.keep, [1, "due"])

    def test_wave_and_planned_without_a_rule(self):
        store = self.store()
        for text in WRONG_RULES + ["due\n", "due,lot", "-"] + odd_things():
            self.refused(NoRule, store, store.wave, [text])
            self.refused(NoRule, store, store.planned, [text])
        for text in ("", None, "Due"):
            self.refused(NoRule, Store(PLAN), Store(PLAN).wave, [text])
            self.refused(NoRule, Store(PLAN), Store(PLAN).planned, [text])


class Keeps(Case):
    def oats(self):
        """In turn by due: lot 1 (4 grains), lot 0 (10 in two bins), lot 2 (8)."""
        store = Store(PLAN)
        store.come("oats", 5, (0, 3), 10)
        store.come("oats", 2, (2, 1), 4)
        store.come("oats", 8, (0, 2), 8)
        store.move(0, (0, 3), (0, 1), 4)
        store.come("rye", 0, (0, 1), 9)
        return store

    def test_the_rows_by_the_rule_s_turn(self):
        for text, amount, rows in [
            ("due", 1, [((2, 1), 1, 1)]),
            ("due", 4, [((2, 1), 1, 4)]),
            ("due", 11, [((2, 1), 1, 4), ((0, 1), 0, 4), ((0, 3), 0, 3)]),
            ("-due", 11, [((0, 2), 2, 8), ((0, 1), 0, 3)]),
            ("-amount", 9, [((0, 2), 2, 8), ((0, 3), 0, 1)]),
            ("amount -aisle", 9, [((2, 1), 1, 4), ((0, 1), 0, 4), ((0, 3), 0, 1)]),
            ("place", 9, [((0, 1), 0, 4), ((2, 1), 1, 4), ((0, 2), 2, 1)]),
            ("lot -place", 22, [((0, 3), 0, 6), ((0, 1), 0, 4), ((2, 1), 1, 4), ((0, 2), 2, 8)]),
        ]:
            store = self.oats()
            ahead = store.rows()
            number = store.promise("oats", amount, 0)
            self.assertEqual(store.keep(number, text), rows)
            self.assertEqual(store.rows(), ahead + [("go", lot, spot, grains) for spot, lot, grains in rows])
            self.assertEqual(store.open_ones(), [])
            self.assertEqual(store.total("oats"), 22 - amount)
            self.refused(NoPromise, store, store.keep, [number, text])

    def test_the_first_piece_may_give_only_a_part(self):
        store = self.oats()
        store.promise("oats", 6, 7)
        store.promise("oats", 9, 0)
        self.assertEqual(store.keep(1, "-due"), [((0, 2), 2, 2), ((0, 1), 0, 4), ((0, 3), 0, 3)])
        self.assertEqual(store.open_ones(), [(0, "oats", 6, 7)])
        self.assertEqual(store.free("oats", 6), 0)

    def test_the_first_piece_may_give_none(self):
        store = self.oats()
        store.promise("oats", 8, 8)
        store.promise("oats", 14, 0)
        self.assertEqual(store.keep(1, "-due"), [((0, 1), 0, 4), ((0, 3), 0, 6), ((2, 1), 1, 4)])

    def test_a_piece_in_the_middle_may_give_none(self):
        store = self.oats()
        store.promise("oats", 8, 6)
        store.promise("oats", 10, 4)
        store.promise("oats", 3, 0)
        # By lot: 0 and 2 are needed by the other two, which leaves lot 1 alone.
        self.assertEqual(store.keep(2, "lot"), [((2, 1), 1, 3)])
        self.assertEqual(store.wave("due"), [])

    def test_what_one_piece_gave_the_next_one_of_like_days_gives_no_more(self):
        store = self.oats()
        store.promise("oats", 13, 4)
        store.promise("oats", 9, 0)
        # 18 are due on 4 or later, 5 of them are free; of lot 0 lie 4 and 6.
        self.assertEqual(store.keep(1, "lot"), [((0, 1), 0, 4), ((0, 3), 0, 1), ((2, 1), 1, 4)])

    def test_two_later_days_bound_by_turns(self):
        store = Store(PLAN)
        store.come("oats", 9, (0, 1), 10)
        store.come("oats", 5, (0, 2), 10)
        store.come("oats", 0, (0, 3), 10)
        store.promise("oats", 7, 9)
        store.promise("oats", 8, 4)
        store.promise("oats", 15, 0)
        # Day 9 leaves 3 of lot 0; day 4 leaves 5 of both lots, so 2 more of lot 1.
        self.assertEqual(store.keep(2, "-due"), [((0, 1), 0, 3), ((0, 2), 1, 2), ((0, 3), 2, 10)])
        self.assertEqual(store.free("oats", 4), 0)

    def test_another_promise_for_today_bounds_nothing_by_itself(self):
        store = self.oats()
        store.promise("oats", 12, 0)
        store.promise("oats", 10, 0)
        self.assertEqual(store.keep(1, "-due"), [((0, 2), 2, 8), ((0, 1), 0, 2)])
        self.assertEqual(store.keep(0, "-due"), [((0, 1), 0, 2), ((0, 3), 0, 6), ((2, 1), 1, 4)])
        self.assertEqual(store.total("oats"), 0)

    def test_promises_of_other_wares_do_not_matter(self):
        store = Store(PLAN)
        store.come("oats", 9, (0, 1), 10)
        store.come("oat", 9, (0, 1), 10)
        store.come("oats", 0, (0, 2), 5)
        store.promise("oat", 10, 9)
        store.promise("oats", 10, 0)
        self.assertEqual(store.keep(1, "-due"), [((0, 1), 0, 10)])

    def test_a_lot_that_is_good_no_more_gives_nothing(self):
        store = self.oats()
        store.promise("oats", 12, 3)
        for day in range(3):
            store.next_day()
        self.assertEqual(store.keep(0, "due"), [((0, 1), 0, 4), ((0, 3), 0, 6), ((0, 2), 2, 2)])
        self.assertEqual(store.amount(1, (2, 1)), 4)

    def test_a_lot_on_its_last_day_gives(self):
        store = self.oats()
        store.promise("oats", 4, 2)
        store.next_day()
        store.next_day()
        self.assertEqual(store.keep(0, "due"), [((2, 1), 1, 4)])

    def test_dropped_and_kept_promises_bound_nothing(self):
        store = self.oats()
        store.promise("oats", 8, 8)
        store.promise("oats", 8, 0)
        store.drop(0)
        self.assertEqual(store.keep(number=1, text="-due"), [((0, 2), 2, 8)])

    def test_rows_told_stay_and_are_the_askers_own(self):
        store = self.oats()
        store.promise("oats", 11, 0)
        told = store.keep(0, "due")
        self.assertIs(type(told), list)
        self.assertEqual({type(row) for row in told}, {tuple})
        right = seen(store)
        kept = list(told)
        told.clear()
        self.assertEqual(seen(store), right)
        told.extend(kept)
        store.promise("oats", 2, 0)
        store.wave("due")
        self.assertEqual(told, kept)

    def test_the_greatest_amounts(self):
        store = Store(PLAN, 10 ** 6)
        store.come("oats", 9, (0, 1), 10 ** 6)
        store.come("oats", 3, (0, 2), 10 ** 6)
        store.promise("oats", 10 ** 6 - 1, 9)
        store.promise("oats", 10 ** 6, 0)
        self.assertEqual(store.keep(1, "-due"), [((0, 1), 0, 1), ((0, 2), 1, 10 ** 6 - 1)])

    def test_against_the_plain_reckoning(self):
        met = {"part": 0, "none": 0, "kept": 0}
        for seed in range(400):
            store, plain, chance = filled(seed)
            numbers = plain.today_ones()
            chance.shuffle(numbers)
            for number in numbers:
                text = chance.choice(RULES)
                self.keep_both(store, plain, number, text, met)
        self.assertGreater(min(met.values()), 30, met)

    def keep_both(self, store, plain, number, text, met):
        ware, amount, day = plain.promises[number]
        turn = plain.turn(ware, text)
        right = plain.keep(number, text)
        self.assertEqual(store.keep(number, text), right)
        self.assertEqual(sum(row[2] for row in right), amount)
        self.assertEqual(store.rows(), plain.rows)
        self.assertEqual(store.open_ones(), plain.open_ones())
        self.assertEqual(store.lying(), plain.lying())
        self.assertTrue(plain.all_kept())
        # What the rule alone would pick first is not always what goes out.
        first = turn[0]
        met["kept"] += 1
        met["none"] += first[:2] != right[0][:2]
        met["part"] += first[:2] == right[0][:2] and right[0][2] < min(first[2], amount)

    def test_one_grain_more_would_leave_one_unkept(self):
        met = 0
        for seed in range(120):
            store, plain, chance = filled(seed)
            for number in plain.today_ones():
                text = chance.choice(RULES)
                ware, wanted, day = plain.promises.pop(number)
                rows = dict([(row[:2], row[2]) for row in store.keep(number, text)])
                for spot, lot, lies, due, came in plain.turn(ware, text):
                    gives = rows.get((spot, lot), 0)
                    left = plain.asks(ware) + [(day, wanted - gives)]
                    self.assertTrue(can_keep(plain.stock(ware, spot, lot, gives), left))
                    if gives < min(lies, wanted):
                        more = plain.asks(ware) + [(day, wanted - gives - 1)]
                        self.assertFalse(can_keep(plain.stock(ware, spot, lot, gives + 1), more))
                        met += 1
                    if gives:
                        plain.go(lot, spot, gives)
                        wanted -= gives
                self.assertEqual(wanted, 0)
        self.assertGreater(met, 100)


class Waves(Case):
    def store(self):
        store = Store(PLAN)
        store.come("oats", 5, (0, 3), 10)
        store.come("oats", 2, (2, 1), 4)
        store.come("rye", 8, (0, 3), 8)
        store.promise("oats", 3, 1)
        store.promise("oats", 2, 0)
        store.promise("rye", 8, 0)
        store.promise("oats", 5, 0)
        return store

    def test_all_for_today_by_their_numbers(self):
        store = self.store()
        ahead = store.rows()
        rows = [(1, (2, 1), 1, 2), (2, (0, 3), 2, 8), (3, (2, 1), 1, 2), (3, (0, 3), 0, 3)]
        self.assertEqual(store.planned("due"), rows)
        self.assertEqual(store.wave("due"), rows)
        self.assertEqual(store.rows(), ahead + [("go", lot, spot, amount) for number, spot, lot, amount in rows])
        self.assertEqual(store.open_ones(), [(0, "oats", 3, 1)])
        self.assertEqual(store.wave("due"), [])
        self.assertEqual(store.planned("due"), [])
        self.assertEqual(store.next_day(), 1)
        self.assertEqual(store.wave(text="due"), [(0, (0, 3), 0, 3)])
        self.assertEqual(store.open_ones(), [])

    def test_the_amounts_of_the_pieces_are_those_behind_the_keep_ahead(self):
        # By amount, greatest first: the second promise meets what the first one left.
        store = Store(PLAN)
        store.come("oats", 5, (0, 1), 10)
        store.come("oats", 5, (0, 2), 8)
        store.promise("oats", 5, 0)
        store.promise("oats", 6, 0)
        rows = [(0, (0, 1), 0, 5), (1, (0, 2), 1, 6)]
        self.assertEqual(store.planned("-amount"), rows)
        self.assertEqual(store.wave("-amount"), rows)

    def test_a_wave_with_later_promises(self):
        store = Store(PLAN)
        store.come("oats", 9, (0, 1), 10)
        store.come("oats", 0, (0, 2), 10)
        store.promise("oats", 6, 9)
        store.promise("oats", 3, 0)
        store.promise("oats", 3, 0)
        store.promise("oats", 8, 0)
        rows = [(1, (0, 1), 0, 3), (2, (0, 1), 0, 1), (2, (0, 2), 1, 2), (3, (0, 2), 1, 8)]
        self.assertEqual(store.planned("-due"), rows)
        self.assertEqual(store.wave("-due"), rows)

    def test_more_than_nine_promises_are_by_numbers(self):
        store = Store(PLAN)
        store.come("oats", 9, (0, 1), 100)
        for number in range(13):
            store.promise("oats", number + 1, 0)
        self.assertEqual(store.wave("lot"), [(number, (0, 1), 0, number + 1) for number in range(13)])

    def test_planned_does_nothing(self):
        store = self.store()
        right = seen(store)
        for text in RULES:
            one, other = store.planned(text), store.planned(text=text)
            self.assertEqual(one, other)
            one.clear()
            self.assertEqual(store.planned(text), other)
        self.assertEqual(seen(store), right)

    def test_rows_told_stay(self):
        store = self.store()
        told, planned = store.wave("due"), self.store().planned("due")
        self.assertEqual([type(told), type(planned)], [list, list])
        self.assertEqual({type(row) for row in told + planned}, {tuple})
        kept = list(told)
        right = seen(store)
        planned.clear()
        told.reverse()
        told.pop()
        self.assertEqual(seen(store), right)
        told = self.store().wave("due")
        store.next_day()
        store.come("oats", 5, (0, 1), 10)
        store.wave("due")
        self.assertEqual(told, kept)

    def test_without_promises(self):
        store = Store(PLAN)
        self.assertEqual((store.wave("due"), store.planned("-lot")), ([], []))
        store.come("oats", 5, (0, 1), 10)
        store.promise("oats", 5, 2)
        right = seen(store)
        self.assertEqual((store.wave("due"), store.planned("-lot")), ([], []))
        self.assertEqual(seen(store), right)

    def test_against_the_plain_reckoning(self):
        several = 0
        for seed in range(250):
            store, plain, chance = filled(1000 + seed)
            text = chance.choice(RULES)
            right = seen(store)
            planned = store.planned(text)
            self.assertEqual(seen(store), right)
            rows = plain.wave(text)
            self.assertEqual(planned, rows)
            self.assertEqual(store.wave(text), rows)
            self.assertEqual(store.rows(), plain.rows)
            self.assertEqual(store.open_ones(), plain.open_ones())
            self.assertTrue(plain.all_kept())
            several += len({row[0] for row in rows}) > 1
        self.assertGreater(several, 100)

    def test_a_wave_is_as_its_keeps_one_by_one(self):
        for seed, text in itertools.product(range(2000, 2030), ("-due", "amount", "-amount lot")):
            store = filled(seed)[0]
            other = copy.deepcopy(store)
            numbers = [row[0] for row in store.open_ones() if row[3] == store.today()]
            rows = [(number,) + row for number in numbers for row in store.keep(number, text)]
            self.assertEqual(other.wave(text), rows)
            self.assertEqual(seen(other), seen(store))

    def test_two_hundred_pieces_and_promises(self):
        store = Store((20, 10, 1), 100)
        for number in range(200):
            store.come("oats", number // 2, (number // 10, number % 10 + 1), 10)
        for number in range(200):
            store.promise("oats", 10, 0 if number % 2 else number // 2)
        with self.assertRaises(Broken):
            store.promise("oats", 1, 0)
        rows = store.planned("-due")
        self.assertEqual(store.wave("-due"), rows)
        self.assertEqual(sum(row[3] for row in rows), 1010)
        self.assertEqual(len(store.open_ones()), 99)
        for day in range(1, 100):
            store.next_day()
            self.assertEqual(sum(row[3] for row in store.wave("due")), 10)
        self.assertEqual(store.open_ones(), [])


if __name__ == "__main__":
    unittest.main()
