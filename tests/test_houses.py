import random
import unittest

from helper import (
    WRONG_AMOUNTS, WRONG_DAYS, WRONG_LOTS, WRONG_WARES, Reckoning, ladder, odd_things, shown, some_deed, wrong_bins,
    wrong_plans,
)

from depot.errors import NoAmount, NoBin, NoDay, NoLot, NoPlan, NoRoom, NoWare, TooLittle
from depot.houses import House

PLAN = (3, 5, 4)
BINS = [(aisle, place) for aisle in range(3) for place in range(1, 6)]


def seen(house):
    """All that a house tells, asked each way."""
    lots = house.lots()
    return (
        house.plan(), house.today(), lots, house.rows(),
        [(spot, list(held.items())) for spot, held in house.lying().items()],
        [[house.amount(lot, spot) for spot in BINS] for lot in range(min(len(lots), 20))],
        [house.total(ware) for ware in ("oats", "rye", "wheat")],
        [house.total(ware, day) for ware in ("oats", "rye") for day in range(12)],
    )


def on_day(house, day):
    while house.today() < day:
        house.next_day()
    return house


def full_of_lots(room=1000):
    house = House(PLAN, room)
    for number in range(1000):
        house.come("oats", 9, BINS[number % 15], 1)
    return house


class Case(unittest.TestCase):
    def refused(self, refusal, house, call, things):
        ahead = seen(house)
        with self.assertRaises(refusal, msg=[shown(thing) for thing in things]):
            call(*things)
        self.assertEqual(seen(house), ahead)


class Making(Case):
    def test_what_is_no_plan(self):
        for plan in wrong_plans():
            for room in (1000, 0, None):
                with self.assertRaises(NoPlan, msg=shown(plan)):
                    House(plan, room)

    def test_what_is_no_room(self):
        for room in [0, -1, 10 ** 6 + 1, 10 ** 30, "1000", 1000.0] + odd_things():
            with self.assertRaises(NoAmount, msg=shown(room)):
                House(PLAN, room)

    def test_a_new_house(self):
        house = House(PLAN)
        self.assertEqual(house.plan(), (3, 5, 4))
        self.assertIs(type(house.plan()), tuple)
        self.assertEqual(house.today(), 0)
        self.assertEqual(house.lots(), [])
        self.assertEqual(house.rows(), [])
        self.assertEqual(house.lying(), {})
        self.assertEqual(house.total("oats"), 0)

    def test_the_room_is_1000_where_none_is_told(self):
        house = House(PLAN)
        self.refused(NoRoom, house, house.come, ["oats", 0, (0, 1), 1001])
        house.come("oats", 0, (0, 1), 1000)
        self.refused(NoRoom, house, house.come, ["oats", 0, (0, 1), 1])

    def test_arguments_go_by_their_names(self):
        house = House(plan=PLAN, room=20)
        self.assertEqual(house.come(ware="oats", due=3, spot=(0, 1), amount=9), 0)
        house.go(lot=0, spot=(0, 1), amount=2)
        house.move(lot=0, one=(0, 1), other=(0, 2), amount=3)
        self.assertEqual(house.count(lot=0, spot=(0, 2), amount=5), 2)
        self.assertEqual(house.amount(lot=0, spot=(0, 1)), 4)
        self.assertEqual(house.total(ware="oats", day=3), 9)


class Deeds(Case):
    def test_a_day_of_a_house(self):
        house = House(PLAN, 20)
        self.assertEqual(house.come("oats", 3, (1, 2), 9), 0)
        self.assertEqual(house.come("rye", 0, (0, 5), 4), 1)
        self.assertIsNone(house.move(0, (1, 2), (0, 5), 5))
        self.assertIsNone(house.go(1, (0, 5), 1))
        self.assertEqual(house.count(0, (1, 2), 2), -2)
        self.assertEqual(house.count(1, (1, 2), 6), 6)
        self.assertEqual(house.count(0, (0, 5), 5), 0)
        self.assertEqual(house.next_day(), 1)
        self.assertEqual(house.come("oats", 1, (2, 1), 20), 2)
        self.assertEqual(house.rows(), [
            ("come", 0, "oats", 3, (1, 2), 9),
            ("come", 1, "rye", 0, (0, 5), 4),
            ("move", 0, (1, 2), (0, 5), 5),
            ("go", 1, (0, 5), 1),
            ("count", 0, (1, 2), 4, 2),
            ("count", 1, (1, 2), 0, 6),
            ("count", 0, (0, 5), 5, 5),
            ("day", 1),
            ("come", 2, "oats", 1, (2, 1), 20),
        ])
        self.assertEqual(house.lots(), [("oats", 3, 0), ("rye", 0, 0), ("oats", 1, 1)])
        self.assertEqual(house.lying(), {(0, 5): {0: 5, 1: 3}, (1, 2): {0: 2, 1: 6}, (2, 1): {2: 20}})
        self.assertEqual(list(house.lying()), [(0, 5), (1, 2), (2, 1)])
        self.assertEqual([house.amount(1, spot) for spot in BINS[4:8]], [3, 0, 6, 0])
        self.assertEqual(house.today(), 1)

    def test_due_is_today_at_the_earliest(self):
        house = on_day(House(PLAN), 5)
        for due in (0, 1, 4):
            self.refused(NoDay, house, house.come, ["oats", due, (0, 1), 1])
        self.assertEqual(house.come("oats", 5, (0, 1), 1), 0)
        self.assertEqual(house.come("oats", 9999, (0, 1), 1), 1)
        self.assertEqual(house.lots(), [("oats", 5, 5), ("oats", 9999, 5)])

    def test_due_ahead_of_today_comes_behind_the_things_by_themselves(self):
        house = on_day(House(PLAN, 10), 5)
        self.refused(NoBin, house, house.come, ["oats", 4, (0, 0), 1])
        self.refused(NoAmount, house, house.come, ["oats", 4, (0, 1), 0])
        self.refused(NoWare, house, house.come, ["Oats", 4, (0, 1), 1])
        self.refused(NoDay, house, house.come, ["oats", 4, (0, 1), 11])
        self.refused(NoDay, house, house.come, ["oats", -1, (0, 0), 1])

    def test_a_lot_that_is_good_no_more_goes_and_is_moved_and_counted(self):
        house = House(PLAN)
        house.come("oats", 0, (0, 1), 9)
        on_day(house, 3)
        house.move(0, (0, 1), (0, 2), 4)
        house.go(0, (0, 2), 1)
        self.assertEqual(house.count(0, (0, 1), 7), 2)
        self.assertEqual(house.lying(), {(0, 1): {0: 7}, (0, 2): {0: 3}})

    def test_room_when_a_lot_comes(self):
        house = House(PLAN, 10)
        house.come("oats", 0, (0, 1), 4)
        for amount in (7, 8, 10 ** 6):
            self.refused(NoRoom, house, house.come, ["rye", 0, (0, 1), amount])
        self.assertEqual(house.come("rye", 0, (0, 1), 6), 1)
        self.refused(NoRoom, house, house.come, ["rye", 0, (0, 1), 1])
        self.assertEqual(house.come("rye", 0, (0, 2), 10), 2)

    def test_a_thousand_lots_and_no_more(self):
        house = full_of_lots()
        self.assertEqual(len(house.lots()), 1000)
        self.assertEqual(house.rows()[-1][1], 999)
        self.refused(NoLot, house, house.come, ["oats", 9, (0, 1), 1])
        self.assertIsNone(house.go(999, BINS[999 % 15], 1))
        self.refused(NoLot, house, house.come, ["oats", 9, (0, 1), 1])
        self.refused(NoLot, house, house.go, [1000, (0, 1), 1])

    def test_refusals_in_a_house_of_a_thousand_lots(self):
        house = on_day(full_of_lots(100), 3)
        self.refused(NoLot, house, house.come, ["oats", 3, (0, 1), 101])
        self.refused(NoDay, house, house.come, ["oats", 2, (0, 1), 101])
        self.refused(NoAmount, house, house.come, ["oats", 2, (0, 1), 0])
        self.refused(NoBin, house, house.come, ["oats", 3, (0, 0), 1])

    def test_go_of_just_what_lies_there_and_of_more(self):
        house = House(PLAN)
        house.come("oats", 0, (0, 1), 4)
        house.come("oats", 0, (0, 1), 9)
        for amount in (5, 6, 13, 10 ** 6):
            self.refused(TooLittle, house, house.go, [0, (0, 1), amount])
        self.refused(TooLittle, house, house.go, [0, (0, 2), 1])
        house.go(0, (0, 1), 4)
        self.assertEqual(house.lying(), {(0, 1): {1: 9}})
        self.refused(TooLittle, house, house.go, [0, (0, 1), 1])
        self.assertEqual(house.lots(), [("oats", 0, 0), ("oats", 0, 0)])

    def test_move(self):
        house = House(PLAN, 10)
        house.come("oats", 0, (0, 1), 8)
        house.come("rye", 0, (0, 2), 7)
        self.refused(TooLittle, house, house.move, [0, (0, 1), (0, 2), 9])
        self.refused(NoRoom, house, house.move, [0, (0, 1), (0, 2), 4])
        self.refused(TooLittle, house, house.move, [1, (0, 1), (0, 2), 4])
        house.move(0, (0, 1), (0, 2), 3)
        self.assertEqual(house.lying(), {(0, 1): {0: 5}, (0, 2): {0: 3, 1: 7}})
        house.move(0, (0, 1), (0, 3), 5)
        self.assertEqual(house.lying(), {(0, 2): {0: 3, 1: 7}, (0, 3): {0: 5}})

    def test_move_from_a_bin_to_itself(self):
        house = House(PLAN, 10)
        house.come("oats", 0, (0, 1), 8)
        house.come("rye", 0, (0, 1), 2)
        house.move(0, (0, 1), (0, 1), 8)
        house.move(0, (0, 1), (0, 1), 1)
        self.refused(TooLittle, house, house.move, [0, (0, 1), (0, 1), 9])
        self.assertEqual(house.lying(), {(0, 1): {0: 8, 1: 2}})
        self.assertEqual(house.rows()[2:], [("move", 0, (0, 1), (0, 1), 8), ("move", 0, (0, 1), (0, 1), 1)])

    def test_count_of_none_as_many_more_and_fewer(self):
        house = House(PLAN, 10)
        house.come("oats", 0, (0, 1), 6)
        for found, more in [(6, 0), (8, 2), (3, -5), (0, -3), (0, 0), (1, 1), (10, 9), (10, 0), (9, -1)]:
            answer = house.count(0, (0, 1), found)
            self.assertEqual(answer, more)
            self.assertIs(type(answer), int)
            self.assertEqual(house.lying(), {(0, 1): {0: found}} if found else {})
            self.assertEqual(house.rows()[-1], ("count", 0, (0, 1), found - more, found))
        self.assertEqual(len(house.rows()), 10)

    def test_count_of_just_the_room_and_of_more(self):
        house = House(PLAN, 10)
        house.come("oats", 0, (0, 1), 6)
        house.come("rye", 0, (0, 1), 3)
        for found in (8, 9, 10, 11, 10 ** 6):
            self.refused(NoRoom, house, house.count, [0, (0, 1), found])
        self.assertEqual(house.count(0, (0, 1), 7), 1)
        self.refused(NoRoom, house, house.count, [1, (0, 1), 4])
        self.assertEqual(house.count(1, (0, 1), 3), 0)
        self.refused(NoRoom, house, house.count, [1, (0, 2), 11])
        self.assertEqual(house.count(1, (0, 2), 10), 10)
        self.assertEqual(house.count(0, (0, 3), 0), 0)
        self.assertEqual(house.lying(), {(0, 1): {0: 7, 1: 3}, (0, 2): {1: 10}})

    def test_count_up_to_the_greatest_amount(self):
        house = House(PLAN, 10 ** 6)
        house.come("oats", 0, (0, 1), 1)
        self.refused(NoAmount, house, house.count, [0, (0, 1), 10 ** 6 + 1])
        self.assertEqual(house.count(0, (0, 1), 10 ** 6), 999999)
        self.assertEqual(house.count(0, (0, 2), 10 ** 6), 10 ** 6)
        self.assertEqual(house.total("oats"), 2 * 10 ** 6)

    def test_days(self):
        house = House(PLAN)
        for day in range(1, 10000):
            self.assertEqual(house.next_day(), day)
            self.assertEqual(house.today(), day)
        self.refused(NoDay, house, house.next_day, [])
        self.refused(NoDay, house, house.next_day, [])
        self.assertEqual(house.today(), 9999)
        self.assertEqual(house.rows(), [("day", day) for day in range(1, 10000)])
        self.refused(NoDay, house, house.come, ["oats", 9998, (0, 1), 1])
        self.assertEqual(house.come("oats", 9999, (0, 1), 1), 0)
        self.assertEqual(house.lots(), [("oats", 9999, 9999)])

    def test_total(self):
        house = House(PLAN)
        house.come("oats", 3, (0, 1), 10)
        house.come("oats", 5, (0, 1), 200)
        house.come("rye", 5, (0, 1), 7)
        house.come("oats", 9999, (2, 5), 400)
        house.move(0, (0, 1), (1, 1), 4)
        house.move(1, (0, 1), (2, 5), 50)
        for day, right in [(0, 610), (3, 610), (4, 600), (5, 600), (6, 400), (9999, 400)]:
            self.assertEqual(house.total("oats", day), right)
        self.assertEqual(house.total("oats"), 610)
        self.assertEqual(house.total("rye"), 7)
        self.assertEqual(house.total("rye", 6), 0)
        self.assertEqual(house.total("wheat"), 0)
        self.assertEqual(house.total("oat"), 0)
        self.assertIs(type(house.total("wheat")), int)
        on_day(house, 8)
        self.assertEqual(house.total("oats"), 610)
        self.assertEqual(house.total("oats", 4), 600)
        house.go(0, (1, 1), 4)
        self.assertEqual(house.total("oats"), 606)

    def test_total_is_refused_from_the_left(self):
        house = House(PLAN)
        house.come("oats", 3, (0, 1), 10)
        for things, refusal in ladder([("oats", WRONG_WARES, NoWare), (3, WRONG_DAYS, NoDay)]):
            self.refused(refusal, house, house.total, things)
        for thing in odd_things():
            self.refused(NoWare, house, house.total, [thing])
            self.refused(NoDay, house, house.total, ["oats", thing])


class Wrong(Case):
    def house(self):
        house = on_day(House(PLAN, 10), 2)
        house.come("oats", 9, (0, 1), 5)
        house.come("rye", 9, (0, 2), 10)
        return house

    def climb(self, call, slots):
        for things, refusal in ladder(slots):
            with self.assertRaises(refusal, msg=[shown(thing) for thing in things]):
                call(*things)

    def test_the_first_from_the_left_is_refused(self):
        house = self.house()
        right = seen(house)
        bins = wrong_bins(PLAN)
        # 1 can be done; 7 is more than lies there, and more than there is room for.
        for amount in (1, 7):
            lot, spot = (0, WRONG_LOTS + [2], NoLot), ((0, 1), bins, NoBin)
            other, so_many = ((0, 2), bins, NoBin), (amount, WRONG_AMOUNTS, NoAmount)
            self.climb(house.go, [lot, spot, so_many])
            self.climb(house.move, [lot, spot, other, so_many])
            self.climb(house.move, [lot, spot, spot, so_many])
            self.climb(house.count, [lot, spot, (amount + 5, WRONG_AMOUNTS[1:], NoAmount)])
            self.climb(house.amount, [lot, spot])
            ware = ("oats", WRONG_WARES, NoWare)
            # 1 is a day, but behind it the house's: that it is ahead of today is looked at later.
            for due in (2, 1):
                self.climb(house.come, [ware, (due, WRONG_DAYS, NoDay), spot, so_many])
        self.assertEqual(seen(house), right)

    def test_odd_things_in_each_place(self):
        house = self.house()
        right = seen(house)
        for thing in odd_things():
            for call, things, refusals in [
                (house.come, ["oats", 9, (0, 1), 1], [NoWare, NoDay, NoBin, NoAmount]),
                (house.go, [0, (0, 1), 1], [NoLot, NoBin, NoAmount]),
                (house.move, [0, (0, 1), (0, 3), 1], [NoLot, NoBin, NoBin, NoAmount]),
                (house.count, [0, (0, 1), 1], [NoLot, NoBin, NoAmount]),
                (house.amount, [0, (0, 1)], [NoLot, NoBin]),
            ]:
                for where, refusal in enumerate(refusals):
                    with self.assertRaises(refusal, msg=(call.__name__, where, shown(thing))):
                        call(*(things[:where] + [thing] + things[where + 1:]))
        self.assertEqual(seen(house), right)

    def test_lots_that_the_house_lacks(self):
        house = House(PLAN)
        for lot in (0, 1, 999):
            self.refused(NoLot, house, house.go, [lot, (0, 1), 1])
            self.refused(NoLot, house, house.move, [lot, (0, 1), (0, 2), 1])
            self.refused(NoLot, house, house.count, [lot, (0, 1), 0])
            self.refused(NoLot, house, house.amount, [lot, (0, 1)])
        house.come("oats", 0, (0, 1), 5)
        self.assertEqual(house.amount(0, (0, 1)), 5)
        for lot in (-1, 1, 2, 999, 1000, 10 ** 30, False):
            self.refused(NoLot, house, house.go, [lot, (0, 1), 1])
            self.refused(NoLot, house, house.move, [lot, (0, 1), (0, 2), 1])
            self.refused(NoLot, house, house.count, [lot, (0, 1), 1])
            self.refused(NoLot, house, house.amount, [lot, (0, 1)])

    def test_bounds_of_things_that_come(self):
        house = House(PLAN, 10 ** 6)
        self.assertEqual(house.come("a", 0, (0, 1), 1), 0)
        self.assertEqual(house.come("abcdefghijkl", 9999, (2, 5), 10 ** 6), 1)
        self.refused(NoAmount, house, house.come, ["a", 0, (0, 2), 10 ** 6 + 1])
        self.refused(NoDay, house, house.come, ["a", 10000, (0, 2), 1])


class OnesOwn(Case):
    def house(self):
        house = House(PLAN)
        house.come("oats", 3, (0, 1), 9)
        house.come("rye", 4, (0, 2), 8)
        house.move(0, (0, 1), (0, 2), 4)
        return house

    def test_what_is_told_is_the_askers_own(self):
        house = self.house()
        right = seen(house)
        told = house.lying()
        told[(0, 1)][0] = 99
        told[(0, 2)].clear()
        told[(2, 2)] = {3: 3}
        self.assertEqual(seen(house), right)
        house.lying().clear()
        house.lots().append(("wheat", 1, 1))
        house.lots().clear()
        house.rows().append(("day", 1))
        house.rows().reverse()
        house.rows().clear()
        self.assertEqual(seen(house), right)
        self.refused(NoLot, house, house.go, [2, (0, 1), 1])

    def test_what_was_told_stays(self):
        house = self.house()
        lying, lots, rows = house.lying(), house.lots(), house.rows()
        house.next_day()
        house.come("wheat", 5, (0, 1), 1)
        house.go(0, (0, 1), 5)
        house.count(1, (0, 2), 0)
        self.assertEqual(lying, {(0, 1): {0: 5}, (0, 2): {0: 4, 1: 8}})
        self.assertEqual(lots, [("oats", 3, 0), ("rye", 4, 0)])
        self.assertEqual(rows, [
            ("come", 0, "oats", 3, (0, 1), 9), ("come", 1, "rye", 4, (0, 2), 8), ("move", 0, (0, 1), (0, 2), 4),
        ])

    def test_kinds_of_what_is_told(self):
        house = self.house()
        house.count(0, (0, 1), 3)
        house.next_day()
        self.assertEqual([type(told) for told in (house.lots(), house.rows(), house.lying())], [list, list, dict])
        self.assertEqual({type(told) for told in house.lots() + house.rows()}, {tuple})
        self.assertEqual({type(held) for held in house.lying().values()}, {dict})

    def test_two_houses_have_nothing_in_common(self):
        one, other = House(PLAN), House(PLAN)
        one.come("oats", 3, (0, 1), 9)
        one.next_day()
        self.assertEqual(seen(other), seen(House(PLAN)))
        other.come("rye", 0, (0, 1), 1000)
        self.assertEqual(one.lots(), [("oats", 3, 0)])
        self.assertEqual(one.lying(), {(0, 1): {0: 9}})
        self.assertEqual(other.today(), 0)
        self.assertEqual(other.rows(), [("come", 0, "rye", 0, (0, 1), 1000)])


class Reckoned(Case):
    """A house beside a plain reckoning by lots and bins, over many deeds, right ones and refused ones."""

    def test_many_deeds(self):
        met = {}
        for seed, room in enumerate([5, 8, 12, 20, 40, 1000] * 2):
            self.reckon(random.Random(seed), room, met)
        # All ways out were gone, else the reckoning shows less than it seems to.
        for deed in ("come", "go", "move", "count", "next_day"):
            self.assertGreater(met[(deed, None)], 20)
        for deed, refusals in [
            ("come", (NoWare, NoDay, NoBin, NoAmount, NoRoom)), ("go", (NoLot, NoBin, NoAmount, TooLittle)),
            ("move", (NoLot, NoBin, NoAmount, TooLittle, NoRoom)), ("count", (NoLot, NoBin, NoAmount, NoRoom)),
        ]:
            for refusal in refusals:
                self.assertGreater(met.get((deed, refusal), 0), 0, (deed, refusal))

    def reckon(self, chance, room, met):
        house, plain = House(PLAN, room), Reckoning(PLAN, room)
        for turn in range(250):
            deed, things = some_deed(plain, chance, 6)
            refusal = plain.refusal(deed, things)
            met[(deed, refusal)] = met.get((deed, refusal), 0) + 1
            if refusal:
                with self.assertRaises(refusal, msg=(deed, things)):
                    getattr(house, deed)(*things)
            else:
                self.assertEqual(getattr(house, deed)(*things), getattr(plain, deed)(*things))
            self.agree(house, plain)

    def agree(self, house, plain):
        self.assertEqual(house.plan(), plain.plan)
        self.assertEqual(house.today(), plain.day)
        self.assertEqual(house.lots(), plain.lots)
        self.assertEqual(house.rows(), plain.rows)
        right = plain.lying()
        self.assertEqual(
            [(spot, list(held.items())) for spot, held in house.lying().items()],
            [(spot, list(held.items())) for spot, held in right.items()],
        )
        for lot in range(len(plain.lots)):
            amounts = [house.amount(lot, spot) for spot in BINS]
            self.assertEqual(amounts, [plain.there(lot, spot) for spot in BINS])
            self.assertEqual(sum(amounts), plain.left(lot))
        for ware in ("oats", "rye", "wheat"):
            self.assertEqual(house.total(ware), plain.total(ware, 0))
            for day in (0, plain.day, plain.day + 1, plain.day + 3, 9999):
                self.assertEqual(house.total(ware, day), plain.total(ware, day))


if __name__ == "__main__":
    unittest.main()
