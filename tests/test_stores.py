import random
import unittest
from unittest import mock

import test_houses
from helper import (
    WRONG_AMOUNTS, WRONG_DAYS, WRONG_LOTS, WRONG_NUMBERS, WRONG_WARES, StoreReckoning, ladder, odd_things, shown,
    some_store_deed, wrong_bins, wrong_plans,
)

from depot.errors import (
    Broken, NoAmount, NoBin, NoDay, NoLot, NoPlan, NoPromise, NoRoom, NoRule, NotToday, NoWare, StillOpen, TooLittle,
)
from depot.ledger import house_of, lying_by
from depot.stores import Store

PLAN = (3, 5, 4)


def seen(store):
    """All that a store tells, asked each way."""
    days = range(store.today(), min(store.today() + 6, 10000))
    return (
        test_houses.seen(store), store.open_ones(), [store.planned(text) for text in ("due", "-amount")],
        [store.free(ware, day) for ware in ("oats", "rye", "wheat") for day in days],
    )


def on_day(store, day):
    while store.today() < day:
        store.next_day()
    return store


class Case(unittest.TestCase):
    def refused(self, refusal, store, call, things):
        ahead = seen(store)
        with self.assertRaises(refusal, msg=[shown(thing) for thing in things]):
            call(*things)
        self.assertEqual(seen(store), ahead)


class AsAHouse:
    """Every test of a house, of a store in its place: without promises a store does what a house does."""

    def setUp(self):
        patch = mock.patch.object(test_houses, "House", Store)
        patch.start()
        self.addCleanup(patch.stop)


class MakingAsAHouse(AsAHouse, test_houses.Making):
    pass


class DeedsAsAHouse(AsAHouse, test_houses.Deeds):
    pass


class WrongAsAHouse(AsAHouse, test_houses.Wrong):
    pass


class OnesOwnAsAHouse(AsAHouse, test_houses.OnesOwn):
    pass


class ReckonedAsAHouse(AsAHouse, test_houses.Reckoned):
    pass


class Making(Case):
    def test_no_plan_ahead_of_no_amount(self):
        for plan in wrong_plans():
            for room in (1000, 0, None):
                with self.assertRaises(NoPlan, msg=shown(plan)):
                    Store(plan, room)
        for room in [0, -1, 10 ** 6 + 1, "1000"] + odd_things():
            with self.assertRaises(NoAmount, msg=shown(room)):
                Store(PLAN, room)

    def test_a_new_store(self):
        store = Store(PLAN)
        self.assertEqual((store.plan(), store.today(), store.lots(), store.rows()), (PLAN, 0, [], []))
        self.assertEqual((store.lying(), store.open_ones(), store.total("oats")), ({}, [], 0))
        self.assertEqual((store.wave("due"), store.planned("due"), store.free("oats", 0)), ([], [], 0))

    def test_two_stores_have_nothing_in_common(self):
        one, other = Store(PLAN), Store(PLAN)
        one.come("oats", 5, (0, 1), 5)
        one.promise("oats", 2, 3)
        self.assertEqual(seen(other), seen(Store(PLAN)))
        other.come("oats", 5, (0, 1), 5)
        self.assertEqual(other.promise("oats", 5, 3), 0)
        self.assertEqual(one.open_ones(), [(0, "oats", 2, 3)])


class Promises(Case):
    def store(self):
        """Oats: 10 due on 2, 20 due on 4, 40 due on 6; rye: 7 due on 3."""
        store = Store(PLAN)
        store.come("oats", 4, (0, 1), 20)
        store.come("oats", 2, (0, 2), 10)
        store.come("oats", 6, (1, 1), 25)
        store.move(2, (1, 1), (2, 5), 5)
        store.come("oats", 6, (0, 1), 15)
        store.come("rye", 3, (0, 1), 7)
        return store

    def test_numbers_as_they_are_let_by(self):
        store = self.store()
        self.assertEqual(store.promise("oats", 3, 4), 0)
        self.assertEqual(store.promise("rye", 7, 0), 1)
        self.refused(Broken, store, store.promise, ["rye", 1, 0])
        self.assertEqual(store.promise(ware="oats", amount=4, day=0), 2)
        store.drop(2)
        self.assertEqual(store.promise("oats", 4, 0), 3)
        store.drop(0)
        self.assertEqual(store.promise("oats", 1, 6), 4)
        self.assertEqual(store.open_ones(), [(1, "rye", 7, 0), (3, "oats", 4, 0), (4, "oats", 1, 6)])

    def test_just_all_for_a_day_and_one_more(self):
        for day, most in [(0, 70), (1, 70), (2, 70), (3, 60), (4, 60), (5, 40), (6, 40)]:
            store = self.store()
            self.assertEqual(store.free("oats", day), most)
            self.refused(Broken, store, store.promise, ["oats", most + 1, day])
            self.refused(Broken, store, store.promise, ["oats", 10 ** 6, day])
            self.assertEqual(store.promise("oats", most, day), 0)
            self.refused(Broken, store, store.promise, ["oats", 1, day])
            self.assertEqual(store.free("oats", day), 0)
        store = self.store()
        for day in (7, 8, 9999):
            self.refused(Broken, store, store.promise, ["oats", 1, day])
            self.assertEqual(store.free("oats", day), 0)
        for ware in ("wheat", "oat", "oatss"):
            self.refused(Broken, store, store.promise, [ware, 1, 0])

    def test_several_days(self):
        store = self.store()
        store.promise("oats", 35, 5)
        store.promise("oats", 20, 3)
        self.assertEqual([store.free("oats", day) for day in range(8)], [15, 15, 15, 5, 5, 5, 5, 0])
        self.refused(Broken, store, store.promise, ["oats", 6, 3])
        self.refused(Broken, store, store.promise, ["oats", 16, 0])
        store.promise("oats", 5, 6)
        self.assertEqual([store.free("oats", day) for day in range(8)], [10, 10, 10, 0, 0, 0, 0, 0])
        store.promise("oats", 10, 1)
        self.assertEqual([store.free("oats", day) for day in range(8)], [0] * 8)
        self.assertEqual(store.free("rye", 3), 7)
        for number in range(4):
            store.drop(number)
        self.assertEqual([store.free("oats", day) for day in range(8)], [70, 70, 70, 60, 60, 40, 40, 0])

    def test_lots_that_are_good_no_more_serve_no_promise(self):
        store = on_day(self.store(), 2)
        self.assertEqual(store.free("oats", 2), 70)
        on_day(store, 3)
        self.assertEqual(store.free("oats", 3), 60)
        self.refused(Broken, store, store.promise, ["oats", 61, 3])
        store.promise("oats", 60, 3)
        self.assertEqual(store.total("oats"), 70)

    def test_a_lot_due_ahead_of_the_day_serves_it_not(self):
        store = Store(PLAN)
        store.come("oats", 3, (0, 1), 5)
        self.refused(Broken, store, store.promise, ["oats", 1, 4])
        store.promise("oats", 5, 3)
        store.drop(0)
        store.come("oats", 4, (0, 1), 1)
        store.promise("oats", 1, 4)
        self.refused(Broken, store, store.promise, ["oats", 6, 3])
        store.promise("oats", 5, 3)

    def test_what_comes_is_free(self):
        store = self.store()
        store.promise("oats", 70, 2)
        store.come("oats", 2, (2, 1), 3)
        self.assertEqual(store.free("oats", 2), 3)
        self.assertEqual(store.free("oats", 3), 3)
        store.promise("oats", 3, 3)
        self.refused(Broken, store, store.promise, ["oats", 1, 0])

    def test_refused_from_the_left(self):
        store = on_day(self.store(), 2)
        ware, amount = ("oats", WRONG_WARES, NoWare), (3, WRONG_AMOUNTS, NoAmount)
        day = (2, WRONG_DAYS + [1, 0], NoDay)
        right = seen(store)
        for things, refusal in ladder([ware, amount, day]) + ladder([ware, (1000, WRONG_AMOUNTS, NoAmount), day]):
            with self.assertRaises(refusal, msg=things):
                store.promise(*things)
        for things, refusal in ladder([ware, day]):
            with self.assertRaises(refusal, msg=things):
                store.free(*things)
        for thing in odd_things():
            for call, things, refusals in [
                (store.promise, ["oats", 3, 4], [NoWare, NoAmount, NoDay]), (store.free, ["oats", 4], [NoWare, NoDay]),
            ]:
                for where, refusal in enumerate(refusals):
                    with self.assertRaises(refusal, msg=(call.__name__, where, shown(thing))):
                        call(*(things[:where] + [thing] + things[where + 1:]))
        self.assertEqual(seen(store), right)
        self.assertEqual(store.promise("oats", 3, 2), 0)

    def test_days_ahead_of_today(self):
        store = on_day(self.store(), 3)
        for day in (0, 2):
            self.refused(NoDay, store, store.promise, ["oats", 1, day])
            self.refused(NoDay, store, store.promise, ["oats", 1000, day])
            self.refused(NoDay, store, store.free, ["oats", day])
            self.refused(NoDay, store, store.free, ["wheat", day])
        self.assertEqual(store.promise("oats", 1, 3), 0)

    def test_the_last_day(self):
        store = Store(PLAN)
        store.come("oats", 9999, (0, 1), 5)
        self.refused(NoDay, store, store.promise, ["oats", 1, 10000])
        self.refused(NoDay, store, store.free, ["oats", 10000])
        self.assertEqual(store.free("oats", 9999), 5)
        self.assertEqual(store.promise("oats", 5, 9999), 0)

    def test_free_beyond_a_million(self):
        store = Store(PLAN, 10 ** 6)
        store.come("oats", 5, (0, 1), 10 ** 6)
        store.come("oats", 5, (0, 2), 10 ** 6)
        self.assertEqual(store.free("oats", 5), 2 * 10 ** 6)
        self.assertEqual(store.promise("oats", 10 ** 6, 5), 0)
        self.refused(NoAmount, store, store.promise, ["oats", 10 ** 6 + 1, 5])
        self.assertEqual(store.promise("oats", 10 ** 6, 5), 1)
        self.refused(Broken, store, store.promise, ["oats", 1, 5])

    def test_drop(self):
        store = self.store()
        store.promise("oats", 1, 2)
        store.promise("oats", 2, 2)
        for number in [2, 3, 999, 10 ** 30] + WRONG_NUMBERS + odd_things():
            self.refused(NoPromise, store, store.drop, [number])
        self.assertIsNone(store.drop(1))
        self.refused(NoPromise, store, store.drop, [1])
        self.assertEqual(store.open_ones(), [(0, "oats", 1, 2)])
        self.assertIsNone(store.drop(number=0))
        for number in (0, 1, 2, False, True):
            self.refused(NoPromise, store, store.drop, [number])
        self.assertEqual(store.rows(), self.store().rows())

    def test_drop_of_what_was_kept(self):
        store = self.store()
        store.promise("oats", 1, 0)
        store.promise("oats", 1, 0)
        store.keep(0, "due")
        self.refused(NoPromise, store, store.drop, [0])
        store.wave("due")
        self.refused(NoPromise, store, store.drop, [1])

    def test_drop_in_a_new_store(self):
        store = Store(PLAN)
        for number in (0, 1, -1, False, None):
            self.refused(NoPromise, store, store.drop, [number])

    def test_open_ones_by_numbers(self):
        store = self.store()
        for turn in range(12):
            store.promise("oats", 8 - turn // 2, 2 - turn % 3)
        self.assertEqual(store.open_ones(), [(turn, "oats", 8 - turn // 2, 2 - turn % 3) for turn in range(12)])
        for number in (10, 0, 5):
            store.drop(number)
        store.promise("rye", 1, 0)
        self.assertEqual([row[0] for row in store.open_ones()], [1, 2, 3, 4, 6, 7, 8, 9, 11, 12])
        told = store.open_ones()
        self.assertIs(type(told), list)
        self.assertEqual({type(row) for row in told}, {tuple})
        kept = list(told)
        told.clear()
        self.assertEqual(store.open_ones(), kept)
        told = store.open_ones()
        store.drop(12)
        store.wave("due")
        self.assertEqual(told, kept)

    def test_promises_are_no_rows_of_the_ledger(self):
        store = self.store()
        right = store.rows()
        store.promise("oats", 3, 2)
        store.drop(0)
        store.free("oats", 3)
        self.assertEqual(store.rows(), right)


class Broke(Case):
    def test_go_that_would_break_a_promise(self):
        store = Store(PLAN)
        store.come("oats", 5, (0, 1), 10)
        store.promise("oats", 7, 5)
        for amount in (4, 5, 10):
            self.refused(Broken, store, store.go, [0, (0, 1), amount])
        self.assertIsNone(store.go(0, (0, 1), 3))
        self.refused(Broken, store, store.go, [0, (0, 1), 1])
        store.drop(0)
        store.go(0, (0, 1), 7)
        self.assertEqual(store.lying(), {})

    def test_count_that_would_break_a_promise(self):
        store = Store(PLAN)
        store.come("oats", 5, (0, 1), 10)
        store.promise("oats", 7, 5)
        for found in (6, 5, 0):
            self.refused(Broken, store, store.count, [0, (0, 1), found])
        self.assertEqual(store.count(0, (0, 1), 7), -3)
        self.assertEqual(store.count(0, (0, 1), 7), 0)
        self.refused(Broken, store, store.count, [0, (0, 1), 6])
        self.assertEqual(store.count(0, (0, 1), 9), 2)
        self.assertEqual(store.count(0, (1, 1), 4), 4)
        self.assertEqual(store.count(0, (0, 1), 3), -6)
        self.refused(Broken, store, store.count, [0, (1, 1), 3])
        store.drop(0)
        self.assertEqual(store.count(0, (1, 1), 0), -4)

    def test_a_count_that_finds_more_can_be_promised(self):
        store = Store(PLAN)
        store.come("oats", 5, (0, 1), 10)
        store.promise("oats", 10, 5)
        self.assertEqual(store.count(0, (0, 1), 12), 2)
        self.assertEqual(store.promise("oats", 2, 5), 1)
        self.assertEqual(store.count(0, (0, 2), 1), 1)
        self.assertEqual(store.promise("oats", 1, 5), 2)
        self.refused(Broken, store, store.count, [0, (0, 2), 0])

    def test_only_where_no_other_lot_serves(self):
        store = Store(PLAN)
        store.come("oats", 5, (0, 1), 10)
        store.come("oats", 9, (0, 2), 10)
        store.promise("oats", 10, 3)
        store.go(0, (0, 1), 10)
        self.refused(Broken, store, store.go, [1, (0, 2), 1])
        store.come("oats", 4, (0, 3), 2)
        store.go(1, (0, 2), 2)
        self.refused(Broken, store, store.count, [1, (0, 2), 7])
        self.refused(Broken, store, store.count, [2, (0, 3), 1])

    def test_what_serves_only_the_earlier_days(self):
        # 10 due on 5, 10 due on 9; promised are 10 for day 7, and 5 for day 2.
        store = Store(PLAN)
        store.come("oats", 5, (0, 1), 10)
        store.come("oats", 9, (0, 1), 10)
        store.promise("oats", 10, 7)
        store.promise("oats", 5, 2)
        self.refused(Broken, store, store.go, [1, (0, 1), 1])
        self.refused(Broken, store, store.count, [1, (0, 1), 9])
        self.refused(Broken, store, store.go, [0, (0, 1), 6])
        store.go(0, (0, 1), 5)
        self.refused(Broken, store, store.go, [0, (0, 1), 1])

    def test_other_wares_do_not_matter(self):
        store = Store(PLAN)
        store.come("oats", 5, (0, 1), 10)
        store.come("oat", 5, (0, 1), 10)
        store.promise("oats", 10, 5)
        store.go(1, (0, 1), 4)
        self.assertEqual(store.count(1, (0, 1), 0), -6)
        self.refused(Broken, store, store.go, [0, (0, 1), 1])

    def test_a_lot_that_is_good_no_more_may_go(self):
        store = Store(PLAN)
        store.come("oats", 1, (0, 1), 10)
        store.come("oats", 5, (0, 1), 10)
        store.promise("oats", 10, 4)
        on_day(store, 2)
        store.go(0, (0, 1), 4)
        self.assertEqual(store.count(0, (0, 1), 0), -6)
        self.refused(Broken, store, store.go, [1, (0, 1), 1])

    def test_a_lot_on_its_last_day_still_serves(self):
        store = Store(PLAN)
        store.come("oats", 2, (0, 1), 10)
        on_day(store, 2)
        store.promise("oats", 10, 2)
        self.refused(Broken, store, store.go, [0, (0, 1), 1])

    def test_behind_all_that_a_house_refuses(self):
        store = Store(PLAN, 20)
        store.come("oats", 5, (0, 1), 10)
        store.come("rye", 5, (0, 1), 5)
        store.promise("oats", 10, 5)
        right = seen(store)
        lot, spot = (0, WRONG_LOTS + [2], NoLot), ((0, 1), wrong_bins(PLAN), NoBin)
        for things, refusal in ladder([lot, spot, (1, WRONG_AMOUNTS, NoAmount)]):
            with self.assertRaises(refusal, msg=things):
                store.go(*things)
        for things, refusal in ladder([lot, spot, (9, WRONG_AMOUNTS[1:], NoAmount)]):
            with self.assertRaises(refusal, msg=things):
                store.count(*things)
        for amount in (11, 15, 10 ** 6):
            self.refused(TooLittle, store, store.go, [0, (0, 1), amount])
        self.refused(TooLittle, store, store.go, [0, (0, 2), 1])
        self.refused(NoRoom, store, store.count, [0, (0, 1), 16])
        self.refused(NoRoom, store, store.count, [0, (0, 2), 21])
        self.refused(Broken, store, store.count, [0, (0, 1), 0])
        self.refused(Broken, store, store.go, [0, (0, 1), 1])
        self.assertEqual(seen(store), right)
        self.assertEqual(store.count(0, (0, 1), 15), 5)

    def test_come_and_move_are_the_house_s(self):
        store = Store(PLAN, 20)
        store.come("oats", 5, (0, 1), 10)
        store.promise("oats", 10, 5)
        self.assertIsNone(store.move(0, (0, 1), (2, 5), 9))
        self.assertIsNone(store.move(0, (2, 5), (2, 5), 9))
        self.assertEqual(store.come("oats", 0, (0, 1), 19), 1)
        self.refused(NoRoom, store, store.move, [0, (2, 5), (0, 1), 1])
        self.refused(TooLittle, store, store.move, [0, (2, 5), (0, 2), 10])
        self.refused(NoRoom, store, store.come, ["oats", 5, (2, 5), 12])
        self.assertEqual(store.lying(), {(0, 1): {0: 1, 1: 19}, (2, 5): {0: 9}})
        self.refused(Broken, store, store.go, [0, (2, 5), 1])

    def test_a_refused_deed_makes_no_row(self):
        store = Store(PLAN)
        store.come("oats", 5, (0, 1), 10)
        store.promise("oats", 10, 5)
        right = [("come", 0, "oats", 5, (0, 1), 10)]
        self.refused(Broken, store, store.go, [0, (0, 1), 1])
        self.refused(Broken, store, store.count, [0, (0, 1), 0])
        self.refused(Broken, store, store.promise, ["oats", 1, 0])
        self.assertEqual(store.rows(), right)


class Days(Case):
    def test_a_promise_for_today_is_still_open(self):
        store = Store(PLAN)
        store.come("oats", 5, (0, 1), 10)
        store.promise("oats", 3, 1)
        self.assertEqual(store.next_day(), 1)
        self.refused(StillOpen, store, store.next_day, [])
        store.promise("oats", 3, 1)
        store.drop(0)
        self.refused(StillOpen, store, store.next_day, [])
        self.assertEqual(store.keep(1, "due"), [((0, 1), 0, 3)])
        self.assertEqual(store.next_day(), 2)
        store.promise("oats", 1, 2)
        store.promise("oats", 1, 3)
        self.refused(StillOpen, store, store.next_day, [])
        store.wave("due")
        self.assertEqual(store.next_day(), 3)
        self.refused(StillOpen, store, store.next_day, [])
        store.drop(3)
        self.assertEqual(store.next_day(), 4)

    def test_a_promise_of_any_ware(self):
        store = Store(PLAN)
        store.come("rye", 5, (0, 1), 10)
        store.come("oats", 5, (0, 1), 10)
        store.promise("oats", 1, 1)
        store.promise("rye", 1, 0)
        self.refused(StillOpen, store, store.next_day, [])
        store.drop(1)
        self.assertEqual(store.next_day(), 1)

    def test_ahead_of_no_day(self):
        store = Store(PLAN)
        store.come("oats", 9999, (0, 1), 10)
        store.promise("oats", 10, 9999)
        on_day(store, 9999)
        self.refused(StillOpen, store, store.next_day, [])
        store.drop(0)
        self.refused(NoDay, store, store.next_day, [])
        self.assertEqual(store.today(), 9999)

    def test_a_lot_that_a_later_promise_does_not_need_runs_out(self):
        store = Store(PLAN)
        store.come("oats", 0, (0, 1), 10)
        store.come("oats", 3, (0, 1), 4)
        store.promise("oats", 4, 3)
        store.next_day()
        self.assertEqual(store.free("oats", 1), 0)
        self.assertEqual(store.open_ones(), [(0, "oats", 4, 3)])


class OnesOwn(Case):
    def test_what_is_told_is_the_askers_own(self):
        store = Store(PLAN)
        store.come("oats", 5, (0, 1), 10)
        store.promise("oats", 4, 0)
        right = seen(store)
        for told in (store.lots(), store.rows(), store.open_ones(), store.lying(), store.planned("due")):
            told.clear()
        store.lying()[(0, 1)].clear()
        self.assertEqual(seen(store), right)

    def test_what_was_told_stays(self):
        store = Store(PLAN)
        store.come("oats", 5, (0, 1), 10)
        store.promise("oats", 4, 0)
        told = (store.lots(), store.rows(), store.open_ones(), store.lying(), store.planned("due"))
        store.wave("due")
        store.next_day()
        store.come("oats", 5, (0, 1), 10)
        self.assertEqual(told, (
            [("oats", 5, 0)], [("come", 0, "oats", 5, (0, 1), 10)], [(0, "oats", 4, 0)], {(0, 1): {0: 10}},
            [(0, (0, 1), 0, 4)],
        ))


class Reckoned(Case):
    """A store beside a plain reckoning, over many deeds, right ones and refused ones."""

    def test_many_deeds(self):
        met = {}
        for seed, room in enumerate([6, 8, 12, 20, 30] * 8):
            self.reckon(random.Random(seed), room, met)
        # All ways out were gone, else the reckoning shows less than it seems to.
        for deed in ("come", "go", "move", "count", "next_day", "promise", "drop", "keep", "wave", "planned", "free"):
            self.assertGreater(met[(deed, None)], 40, deed)
        for deed, refusals in [
            ("come", (NoWare, NoDay, NoBin, NoAmount, NoRoom)), ("go", (NoLot, NoBin, NoAmount, TooLittle, Broken)),
            ("move", (NoLot, NoBin, NoAmount, TooLittle, NoRoom)), ("drop", (NoPromise,)), ("planned", (NoRule,)),
            ("count", (NoLot, NoBin, NoAmount, NoRoom, Broken)), ("next_day", (StillOpen,)), ("wave", (NoRule,)),
            ("promise", (NoWare, NoAmount, NoDay, Broken)), ("keep", (NoPromise, NoRule, NotToday)),
            ("free", (NoWare, NoDay)),
        ]:
            for refusal in refusals:
                self.assertGreater(met.get((deed, refusal), 0), 5, (deed, refusal))

    def reckon(self, chance, room, met):
        store, plain = Store(PLAN, room), StoreReckoning(PLAN, room)
        for turn in range(150):
            deed, things = some_store_deed(plain, chance, 7)
            refusal = plain.refusal(deed, things)
            met[(deed, refusal)] = met.get((deed, refusal), 0) + 1
            if refusal:
                self.refused(refusal, store, getattr(store, deed), things)
            else:
                self.assertEqual(getattr(store, deed)(*things), getattr(plain, deed)(*things), (deed, things))
            self.agree(store, plain, room)

    def agree(self, store, plain, room):
        self.assertTrue(plain.all_kept())
        self.assertEqual((store.plan(), store.today(), store.lots()), (plain.plan, plain.day, plain.lots))
        self.assertEqual(store.open_ones(), plain.open_ones())
        self.assertEqual(store.rows(), plain.rows)
        lies = [(spot, list(held.items())) for spot, held in store.lying().items()]
        self.assertEqual(lies, [(spot, list(held.items())) for spot, held in plain.lying().items()])
        self.assertEqual(lies, [(spot, list(held.items())) for spot, held in lying_by(store.rows()).items()])

    def test_what_a_store_did_a_house_can_do(self):
        for seed in range(5):
            chance = random.Random(1000 + seed)
            store, plain = Store(PLAN, 20), StoreReckoning(PLAN, 20)
            for turn in range(150):
                deed, things = some_store_deed(plain, chance, 1000)
                if not plain.refusal(deed, things):
                    getattr(store, deed)(*things)
                    getattr(plain, deed)(*things)
            house = house_of(store.rows(), PLAN, 20)
            self.assertEqual(house.lying(), store.lying())

    def test_free_against_what_promise_lets_by(self):
        for seed in range(40):
            chance = random.Random(2000 + seed)
            store, plain = Store(PLAN, 20), StoreReckoning(PLAN, 20)
            for turn in range(60):
                deed, things = some_store_deed(plain, chance, 1000)
                if not plain.refusal(deed, things):
                    getattr(store, deed)(*things)
                    getattr(plain, deed)(*things)
            for ware in ("oats", "rye"):
                for day in range(store.today(), store.today() + 5):
                    most = store.free(ware, day)
                    self.refused(Broken, store, store.promise, [ware, most + 1, day])
                    if most:
                        store.drop(store.promise(ware, most, day))


if __name__ == "__main__":
    unittest.main()
