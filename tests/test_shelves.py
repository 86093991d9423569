import random
import unittest

from helper import WRONG_AMOUNTS, WRONG_LOTS, ladder, odd_things, shown, wrong_bins, wrong_plans

from depot.errors import NoAmount, NoBin, NoLot, NoPlan, NoRoom, TooLittle
from depot.shelves import Shelves

PLAN = (3, 5, 4)
BINS = [(aisle, place) for aisle in range(3) for place in range(1, 6)]


def seen(shelves, bins=BINS, lots=range(12)):
    """All that shelves tell, asked each way."""
    return (
        [(spot, list(held.items())) for spot, held in shelves.lying().items()],
        [shelves.held(spot) for spot in bins],
        [shelves.filled(spot) for spot in bins],
        [shelves.places(lot) for lot in lots],
        [[shelves.amount(lot, spot) for spot in bins] for lot in lots],
    )


class Case(unittest.TestCase):
    def refused(self, refusal, shelves, call, things):
        ahead = seen(shelves)
        with self.assertRaises(refusal, msg=[shown(thing) for thing in things]):
            call(*things)
        self.assertEqual(seen(shelves), ahead)


class Making(Case):
    def test_what_is_no_plan(self):
        for plan in wrong_plans():
            with self.assertRaises(NoPlan, msg=shown(plan)):
                Shelves(plan)
            with self.assertRaises(NoPlan, msg=shown(plan)):
                Shelves(plan, 5)

    def test_what_is_no_room(self):
        for room in [0, -1, -1000, 10 ** 6 + 1, 10 ** 7, 10 ** 30, "1000", [1000], (1000,), 1000.0] + odd_things():
            with self.assertRaises(NoAmount, msg=shown(room)):
                Shelves(PLAN, room)

    def test_the_plan_is_looked_at_ahead_of_the_room(self):
        for plan in [None, (0, 1, 1), [3, 5, 4], (3, 5, True)]:
            for room in [0, None, True, 10 ** 6 + 1]:
                with self.assertRaises(NoPlan):
                    Shelves(plan, room)

    def test_the_room_is_1000_where_none_is_told(self):
        shelves = Shelves(PLAN)
        shelves.put(0, (0, 1), 1000)
        self.refused(NoRoom, shelves, shelves.put, [0, (0, 1), 1])
        other = Shelves(PLAN)
        self.refused(NoRoom, other, other.put, [0, (0, 1), 1001])

    def test_least_and_greatest_room(self):
        shelves = Shelves(PLAN, 1)
        self.refused(NoRoom, shelves, shelves.put, [0, (0, 1), 2])
        shelves.put(0, (0, 1), 1)
        self.refused(NoRoom, shelves, shelves.put, [1, (0, 1), 1])
        shelves = Shelves(PLAN, 10 ** 6)
        shelves.put(0, (0, 1), 10 ** 6)
        self.refused(NoRoom, shelves, shelves.put, [1, (0, 1), 1])
        self.assertEqual(shelves.filled((0, 1)), 10 ** 6)

    def test_arguments_go_by_their_names(self):
        shelves = Shelves(plan=PLAN, room=10)
        shelves.put(lot=1, spot=(0, 1), amount=9)
        shelves.take(lot=1, spot=(0, 1), amount=2)
        shelves.shift(lot=1, one=(0, 1), other=(0, 2), amount=3)
        self.assertEqual(shelves.amount(lot=1, spot=(0, 1)), 4)
        self.assertEqual(shelves.held(spot=(0, 2)), [(1, 3)])
        self.assertEqual(shelves.filled(spot=(0, 2)), 3)
        self.assertEqual(shelves.places(lot=1), [((0, 1), 4), ((0, 2), 3)])

    def test_new_shelves_are_empty(self):
        shelves = Shelves(PLAN)
        self.assertEqual(shelves.lying(), {})
        self.assertEqual(shelves.held((2, 5)), [])
        self.assertEqual(shelves.filled((2, 5)), 0)
        self.assertEqual(shelves.places(999), [])
        self.assertEqual(shelves.amount(999, (2, 5)), 0)


class Deeds(Case):
    def test_put_take_and_shift_answer_none(self):
        shelves = Shelves(PLAN)
        self.assertIsNone(shelves.put(0, (0, 1), 5))
        self.assertIsNone(shelves.shift(0, (0, 1), (0, 2), 2))
        self.assertIsNone(shelves.shift(0, (0, 1), (0, 1), 2))
        self.assertIsNone(shelves.take(0, (0, 1), 1))
        self.assertEqual(shelves.lying(), {(0, 1): {0: 2}, (0, 2): {0: 2}})

    def test_first_and_last_lots_and_bins(self):
        shelves = Shelves((26, 99, 20))
        for lot, amount in ((0, 7), (999, 8)):
            for spot in ((0, 1), (25, 99)):
                shelves.put(lot, spot, amount)
        self.assertEqual(shelves.lying(), {(0, 1): {0: 7, 999: 8}, (25, 99): {0: 7, 999: 8}})

    def test_put_of_just_the_room_and_of_more(self):
        shelves = Shelves(PLAN, 10)
        shelves.put(0, (0, 1), 4)
        for amount in (7, 8, 11, 1000, 10 ** 6):
            self.refused(NoRoom, shelves, shelves.put, [0, (0, 1), amount])
            self.refused(NoRoom, shelves, shelves.put, [1, (0, 1), amount])
        shelves.put(1, (0, 1), 6)
        self.assertEqual(shelves.held((0, 1)), [(0, 4), (1, 6)])
        self.assertEqual(shelves.filled((0, 1)), 10)
        for amount in (1, 2, 10 ** 6):
            self.refused(NoRoom, shelves, shelves.put, [2, (0, 1), amount])
        shelves.put(2, (0, 2), 10)

    def test_take_of_just_what_lies_there_and_of_more(self):
        shelves = Shelves(PLAN, 10)
        shelves.put(0, (0, 1), 4)
        shelves.put(1, (0, 1), 6)
        shelves.put(0, (0, 2), 9)
        for amount in (5, 6, 10, 13, 10 ** 6):
            self.refused(TooLittle, shelves, shelves.take, [0, (0, 1), amount])
        self.refused(TooLittle, shelves, shelves.take, [2, (0, 1), 1])
        self.refused(TooLittle, shelves, shelves.take, [1, (0, 2), 1])
        self.refused(TooLittle, shelves, shelves.take, [0, (0, 3), 1])
        shelves.take(0, (0, 1), 4)
        self.assertEqual(shelves.lying(), {(0, 1): {1: 6}, (0, 2): {0: 9}})
        self.refused(TooLittle, shelves, shelves.take, [0, (0, 1), 1])
        shelves.take(1, (0, 1), 6)
        self.assertEqual(shelves.lying(), {(0, 2): {0: 9}})
        self.assertEqual(shelves.held((0, 1)), [])
        shelves.put(5, (0, 1), 10)

    def test_shift_of_just_what_lies_there_and_of_more(self):
        shelves = Shelves(PLAN, 10)
        shelves.put(0, (0, 1), 4)
        shelves.put(1, (0, 1), 6)
        for amount in (5, 6, 10):
            self.refused(TooLittle, shelves, shelves.shift, [0, (0, 1), (0, 2), amount])
        shelves.shift(0, (0, 1), (0, 2), 4)
        self.assertEqual(shelves.lying(), {(0, 1): {1: 6}, (0, 2): {0: 4}})
        shelves.shift(1, (0, 1), (0, 2), 5)
        self.assertEqual(shelves.lying(), {(0, 1): {1: 1}, (0, 2): {0: 4, 1: 5}})

    def test_shift_of_just_the_room_and_of_more(self):
        shelves = Shelves(PLAN, 10)
        shelves.put(0, (0, 1), 10)
        shelves.put(1, (0, 2), 7)
        for amount in (4, 5, 10):
            self.refused(NoRoom, shelves, shelves.shift, [0, (0, 1), (0, 2), amount])
        shelves.shift(0, (0, 1), (0, 2), 3)
        self.assertEqual(shelves.lying(), {(0, 1): {0: 7}, (0, 2): {0: 3, 1: 7}})
        self.refused(NoRoom, shelves, shelves.shift, [0, (0, 1), (0, 2), 1])

    def test_too_little_ahead_of_no_room(self):
        shelves = Shelves(PLAN, 10)
        shelves.put(0, (0, 1), 4)
        shelves.put(1, (0, 2), 10)
        self.refused(NoRoom, shelves, shelves.shift, [0, (0, 1), (0, 2), 4])
        for amount in (5, 11, 10 ** 6):
            self.refused(TooLittle, shelves, shelves.shift, [0, (0, 1), (0, 2), amount])
        self.refused(TooLittle, shelves, shelves.shift, [2, (0, 1), (0, 2), 1])

    def test_shift_from_a_bin_to_itself(self):
        shelves = Shelves(PLAN, 10)
        shelves.put(0, (0, 1), 4)
        shelves.put(1, (0, 1), 6)
        ahead = seen(shelves)
        for lot, most in ((0, 4), (1, 6)):
            for amount in range(1, most + 1):
                self.assertIsNone(shelves.shift(lot, (0, 1), (0, 1), amount))
                self.assertEqual(seen(shelves), ahead)
            for amount in (most + 1, 10, 11, 10 ** 6):
                self.refused(TooLittle, shelves, shelves.shift, [lot, (0, 1), (0, 1), amount])
        self.refused(TooLittle, shelves, shelves.shift, [2, (0, 1), (0, 1), 1])
        self.refused(TooLittle, shelves, shelves.shift, [0, (0, 2), (0, 2), 1])

    def test_against_a_plain_reckoning(self):
        for seed in range(20):
            self.reckon(random.Random(seed), 5 + seed)

    def reckon(self, chance, room):
        shelves = Shelves(PLAN, room)
        lies = {}
        for turn in range(120):
            lot, one, other = chance.randrange(4), chance.choice(BINS[:4]), chance.choice(BINS[:4])
            amount = chance.choice([1, 2, room // 2, room, lies.get((one, lot)) or 1])
            deed = chance.choice(["put", "take", "shift"])
            brought, gone = {"put": (one, None), "take": (None, one), "shift": (other, one)}[deed]
            filled = sum(lies[key] for key in lies if key[0] == brought)
            refusal = None
            if brought and brought != gone and filled + amount > room:
                refusal = NoRoom
            if gone and lies.get((gone, lot), 0) < amount:
                refusal = TooLittle
            things = [lot, one, other, amount] if deed == "shift" else [lot, one, amount]
            if refusal:
                self.refused(refusal, shelves, getattr(shelves, deed), things)
                continue
            getattr(shelves, deed)(*things)
            if brought:
                lies[(brought, lot)] = lies.get((brought, lot), 0) + amount
            if gone:
                lies[(gone, lot)] -= amount
            self.agree(shelves, {key: amount for key, amount in sorted(lies.items()) if amount})

    def agree(self, shelves, lies):
        right = {}
        for (spot, lot), amount in lies.items():
            right.setdefault(spot, {})[lot] = amount
        right_order = [(spot, list(held.items())) for spot, held in right.items()]
        self.assertEqual([(spot, list(held.items())) for spot, held in shelves.lying().items()], right_order)
        for spot in BINS:
            self.assertEqual(shelves.held(spot), list(right.get(spot, {}).items()))
            self.assertEqual(shelves.filled(spot), sum(right.get(spot, {}).values()))
        for lot in range(5):
            self.assertEqual(shelves.places(lot), [(spot, held[lot]) for spot, held in right.items() if lot in held])
            for spot in BINS:
                self.assertEqual(shelves.amount(lot, spot), right.get(spot, {}).get(lot, 0))


class Telling(Case):
    def filled_shelves(self):
        """Bins and lots come in another order than they are told in."""
        shelves = Shelves((12, 12, 1), 100)
        for lot in (10, 2, 0, 11, 1):
            for spot in ((10, 2), (2, 10), (10, 1), (2, 2), (0, 12), (2, 1)):
                shelves.put(lot, spot, 1 + lot)
        return shelves

    def test_lying_is_in_order(self):
        told = self.filled_shelves().lying()
        self.assertIs(type(told), dict)
        self.assertEqual(list(told), [(0, 12), (2, 1), (2, 2), (2, 10), (10, 1), (10, 2)])
        for held in told.values():
            self.assertIs(type(held), dict)
            self.assertEqual(list(held.items()), [(0, 1), (1, 2), (2, 3), (10, 11), (11, 12)])

    def test_held_is_by_lots(self):
        told = self.filled_shelves().held((2, 10))
        self.assertIs(type(told), list)
        self.assertEqual(told, [(0, 1), (1, 2), (2, 3), (10, 11), (11, 12)])
        self.assertEqual({type(pair) for pair in told}, {tuple})

    def test_places_are_by_bins(self):
        told = self.filled_shelves().places(11)
        self.assertIs(type(told), list)
        bins = [(0, 12), (2, 1), (2, 2), (2, 10), (10, 1), (10, 2)]
        self.assertEqual(told, [(spot, 12) for spot in bins])
        self.assertEqual({type(pair) for pair in told}, {tuple})

    def test_filled_is_of_all_lots(self):
        shelves = self.filled_shelves()
        self.assertEqual(shelves.filled((2, 10)), 29)
        self.assertEqual(shelves.filled((2, 11)), 0)
        self.assertIs(type(shelves.filled((2, 10))), int)
        self.assertIs(type(shelves.filled((2, 11))), int)

    def test_order_stays_when_one_is_emptied_and_comes_again(self):
        shelves = Shelves(PLAN)
        for lot in (0, 1, 2):
            for spot in BINS[:3]:
                shelves.put(lot, spot, 5)
        right = seen(shelves)
        for lot in (0, 1, 2):
            shelves.take(lot, (0, 1), 5)
        shelves.take(0, (0, 2), 5)
        for lot in (2, 0, 1):
            shelves.put(lot, (0, 1), 5)
        shelves.put(0, (0, 2), 5)
        self.assertEqual(seen(shelves), right)

    def test_nothing_of_0_is_told(self):
        shelves = Shelves(PLAN)
        shelves.put(3, (0, 1), 5)
        shelves.put(4, (0, 1), 5)
        shelves.take(3, (0, 1), 5)
        self.assertEqual(shelves.lying(), {(0, 1): {4: 5}})
        self.assertEqual(shelves.held((0, 1)), [(4, 5)])
        self.assertEqual(shelves.places(3), [])
        self.assertEqual(shelves.amount(3, (0, 1)), 0)
        shelves.shift(4, (0, 1), (1, 1), 5)
        self.assertEqual(shelves.lying(), {(1, 1): {4: 5}})
        self.assertEqual(shelves.places(4), [((1, 1), 5)])
        shelves.take(4, (1, 1), 5)
        self.assertEqual(shelves.lying(), {})

    def test_asking_leaves_nothing_behind(self):
        shelves = Shelves(PLAN)
        shelves.amount(1, (0, 1))
        shelves.held((0, 1))
        shelves.filled((0, 1))
        shelves.places(1)
        self.assertEqual(shelves.lying(), {})

    def test_what_is_told_is_the_askers_own(self):
        shelves = Shelves(PLAN)
        shelves.put(0, (0, 1), 5)
        shelves.put(1, (0, 2), 6)
        right = seen(shelves)
        told = shelves.lying()
        told[(0, 1)][0] = 99
        told[(0, 1)][7] = 1
        told[(0, 2)].clear()
        told[(2, 2)] = {3: 3}
        self.assertEqual(seen(shelves), right)
        shelves.lying().clear()
        shelves.held((0, 1)).append((9, 9))
        shelves.held((0, 3)).append((9, 9))
        shelves.places(0).clear()
        shelves.places(5).append(((0, 1), 1))
        self.assertEqual(seen(shelves), right)

    def test_what_was_told_stays(self):
        shelves = Shelves(PLAN)
        shelves.put(0, (0, 1), 5)
        shelves.put(1, (0, 1), 6)
        lying, held, places = shelves.lying(), shelves.held((0, 1)), shelves.places(0)
        shelves.put(0, (0, 1), 2)
        shelves.take(1, (0, 1), 6)
        shelves.shift(0, (0, 1), (2, 2), 3)
        self.assertEqual(lying, {(0, 1): {0: 5, 1: 6}})
        self.assertEqual(held, [(0, 5), (1, 6)])
        self.assertEqual(places, [((0, 1), 5)])

    def test_two_shelves_have_nothing_in_common(self):
        one, other = Shelves(PLAN), Shelves(PLAN)
        one.put(0, (0, 1), 5)
        self.assertEqual(other.lying(), {})
        other.put(0, (0, 1), 1000)
        one.put(1, (0, 1), 995)
        self.assertEqual(one.lying(), {(0, 1): {0: 5, 1: 995}})
        self.assertEqual(other.lying(), {(0, 1): {0: 1000}})


class Wrong(Case):
    def shelves(self):
        shelves = Shelves(PLAN, 10)
        shelves.put(0, (0, 1), 5)
        shelves.put(1, (0, 2), 10)
        return shelves

    def climb(self, call, slots):
        for things, refusal in ladder(slots):
            with self.assertRaises(refusal, msg=[shown(thing) for thing in things]):
                call(*things)

    def test_the_first_from_the_left_is_refused(self):
        shelves = self.shelves()
        right = seen(shelves)
        bins = wrong_bins(PLAN)
        # 1 can be done; 7 is more than lies there, and more than there is room for.
        for amount in (1, 7):
            lot, spot = (0, WRONG_LOTS, NoLot), ((0, 1), bins, NoBin)
            other, so_many = ((0, 2), bins, NoBin), (amount, WRONG_AMOUNTS, NoAmount)
            self.climb(shelves.put, [lot, spot, so_many])
            self.climb(shelves.take, [lot, spot, so_many])
            self.climb(shelves.shift, [lot, spot, other, so_many])
            self.climb(shelves.shift, [lot, spot, spot, so_many])
            self.climb(shelves.amount, [lot, spot])
            self.climb(shelves.held, [spot])
            self.climb(shelves.filled, [spot])
            self.climb(shelves.places, [lot])
        self.assertEqual(seen(shelves), right)

    def test_odd_things_in_each_place(self):
        shelves = self.shelves()
        right = seen(shelves)
        for thing in odd_things():
            for call, things in [
                (shelves.put, [0, (0, 1), 1]), (shelves.take, [0, (0, 1), 1]), (shelves.amount, [0, (0, 1)]),
                (shelves.shift, [0, (0, 1), (0, 3), 1]), (shelves.held, [(0, 1)]), (shelves.filled, [(0, 1)]),
                (shelves.places, [0]),
            ]:
                for where in range(len(things)):
                    refusal = NoBin if isinstance(things[where], tuple) else NoLot if where == 0 else NoAmount
                    with self.assertRaises(refusal, msg=(call.__name__, where, shown(thing))):
                        call(*(things[:where] + [thing] + things[where + 1:]))
        self.assertEqual(seen(shelves), right)

    def test_lots_beyond(self):
        shelves = self.shelves()
        for lot in (-1, -1000, 1000, 1001, 10 ** 30, 10 ** 5000):
            self.refused(NoLot, shelves, shelves.put, [lot, (0, 1), 1])
            self.refused(NoLot, shelves, shelves.places, [lot])

    def test_every_spot_that_is_no_bin(self):
        shelves = self.shelves()
        for aisle in range(-1, 5):
            for place in range(-1, 8):
                if (aisle, place) not in BINS:
                    self.refused(NoBin, shelves, shelves.put, [0, (aisle, place), 1])
                    self.refused(NoBin, shelves, shelves.filled, [(aisle, place)])

    def test_what_is_handed_in_stays(self):
        shelves = self.shelves()
        spot = [0, 1]
        self.refused(NoBin, shelves, shelves.put, [0, spot, 1])
        self.assertEqual(spot, [0, 1])


if __name__ == "__main__":
    unittest.main()
