import itertools
import random
import unittest

from helper import can_keep

from depot.asks import free, keepable, rest, shares, short_day


def some_pairs(chance, most, days, amounts):
    return [(chance.randrange(days), chance.randrange(1, amounts + 1)) for number in range(chance.randrange(most + 1))]


def drawn():
    """Many stocks and asks: of none, of one, of many pairs, like ones too; about as many can be kept as not."""
    for seed in range(1500):
        chance = random.Random(seed)
        most, days, amounts = chance.choice([1, 2, 4, 8]), chance.choice([1, 2, 4, 9]), chance.choice([1, 2, 5])
        stock, asks = some_pairs(chance, 2 * most, days, amounts), some_pairs(chance, most, days, amounts)
        if seed % 3 == 0:
            stock, asks = stock + stock[:2], asks + asks[:2]
        yield stock, asks


def plain_rest(stock, asks, day):
    lies = [due for due, amount in stock for grain in range(amount) if due >= day]
    asked = [other for other, amount in asks for grain in range(amount) if other >= day]
    return len(lies) - len(asked)


def every_way(stock, asks):
    """Whether asks can be kept, by trying which grain goes to which ask, all ways one by one."""
    dues = [due for due, amount in stock for grain in range(amount)]
    days = [day for day, amount in asks for grain in range(amount)]
    return any(all(day <= due for day, due in zip(days, way)) for way in itertools.permutations(dues, len(days)))


class Kept(unittest.TestCase):
    def test_the_plain_reckoning_is_right_where_all_ways_are_tried(self):
        met = {True: 0, False: 0}
        for seed in range(400):
            chance = random.Random(seed)
            stock, asks = some_pairs(chance, 3, 3, 2), some_pairs(chance, 2, 3, 2)
            right = every_way(stock, asks)
            self.assertEqual(can_keep(stock, asks), right, (stock, asks))
            self.assertIs(keepable(stock, asks), right, (stock, asks))
            met[right] += 1
        self.assertGreater(min(met.values()), 80)

    def test_keepable_against_the_plain_reckoning(self):
        met = {True: 0, False: 0}
        for stock, asks in drawn():
            right = can_keep(stock, asks)
            self.assertIs(keepable(stock, asks), right, (stock, asks))
            met[right] += 1
        self.assertGreater(min(met.values()), 300)

    def test_keepable_of_few(self):
        self.assertIs(keepable([], []), True)
        self.assertIs(keepable([(3, 1)], []), True)
        self.assertIs(keepable([], [(3, 1)]), False)
        self.assertIs(keepable([(3, 5)], [(3, 5)]), True)
        self.assertIs(keepable([(3, 5)], [(3, 6)]), False)
        self.assertIs(keepable([(3, 5)], [(4, 1)]), False)
        self.assertIs(keepable([(4, 5)], [(3, 5)]), True)
        self.assertIs(keepable([(0, 1)], [(0, 1)]), True)
        self.assertIs(keepable([(9999, 10 ** 6)], [(9999, 10 ** 6)]), True)
        self.assertIs(keepable([(9998, 10 ** 6)], [(9999, 1)]), False)

    def test_no_grain_is_had_twice(self):
        self.assertIs(keepable([(5, 4)], [(3, 2), (3, 2)]), True)
        self.assertIs(keepable([(5, 4)], [(3, 2), (3, 3)]), False)
        self.assertIs(keepable([(5, 4)], [(3, 2), (5, 3)]), False)
        self.assertIs(keepable([(3, 9), (5, 4)], [(2, 9), (5, 4)]), True)
        self.assertIs(keepable([(3, 9), (5, 4)], [(4, 1), (5, 4)]), False)
        self.assertIs(keepable([(5, 4), (3, 9)], [(5, 4), (3, 10)]), False)


class Rest(unittest.TestCase):
    def test_against_the_plain_reckoning(self):
        below = 0
        for stock, asks in drawn():
            for day in range(11):
                right = plain_rest(stock, asks, day)
                self.assertEqual(rest(stock, asks, day), right, (stock, asks, day))
                below += right < 0
        self.assertGreater(below, 300)

    def test_that_day_or_later(self):
        stock, asks = [(3, 10), (5, 200), (5, 200), (9, 4000)], [(4, 1), (5, 60), (5, 60), (8, 300)]
        for day, right in [
            (0, 3989), (3, 3989), (4, 3979), (5, 3980), (6, 3700), (8, 3700), (9, 4000), (10, 0), (9999, 0),
        ]:
            self.assertEqual(rest(stock=stock, asks=asks, day=day), right)

    def test_below_nought(self):
        self.assertEqual(rest([], [(3, 7)], 3), -7)
        self.assertEqual(rest([(2, 5)], [(3, 7)], 2), -2)
        self.assertEqual(rest([(2, 5)], [(3, 7)], 3), -7)
        self.assertEqual(rest([(2, 5)], [(3, 7)], 4), 0)

    def test_none(self):
        self.assertEqual(rest([], [], 0), 0)
        self.assertEqual(rest([(3, 7)], [], 3), 7)
        self.assertEqual(rest([(3, 7)], [], 4), 0)

    def test_great_ones(self):
        stock, asks = [(9999, 10 ** 6)] * 200, [(0, 10 ** 6)] * 199
        self.assertEqual(rest(stock, asks, 0), 10 ** 6)
        self.assertEqual(rest(stock, asks, 1), 200 * 10 ** 6)
        self.assertEqual(rest(asks, stock, 9999), -200 * 10 ** 6)


class ShortDay(unittest.TestCase):
    def test_against_the_plain_reckoning(self):
        met = {}
        for stock, asks in drawn():
            short = sorted({day for day, amount in asks if plain_rest(stock, asks, day) < 0})
            self.assertEqual(short_day(stock, asks), short[-1] if short else None, (stock, asks))
            # [21]: just where none is short, asks can be kept.
            self.assertEqual(not short, can_keep(stock, asks))
            met[min(len(short), 3)] = met.get(min(len(short), 3), 0) + 1
        self.assertGreater(min(met[number] for number in range(4)), 50)

    def test_none_one_and_several(self):
        self.assertIsNone(short_day([], []))
        self.assertIsNone(short_day([(3, 5)], [(3, 5)]))
        self.assertIsNone(short_day([(3, 5)], []))
        self.assertEqual(short_day([(3, 5)], [(3, 6)]), 3)
        self.assertEqual(short_day([], [(0, 1)]), 0)
        self.assertEqual(short_day([], [(9999, 1)]), 9999)
        self.assertEqual(short_day(stock=[(3, 5)], asks=[(1, 1), (3, 6), (2, 1)]), 3)
        self.assertEqual(short_day([(3, 5), (9, 2)], [(9, 2), (2, 3), (3, 3)]), 2)
        self.assertEqual(short_day([(3, 5), (9, 2)], [(1, 2), (7, 3), (9, 2)]), 7)

    def test_a_day_that_is_not_asked_is_not_short(self):
        # Day 5's own rest is below nought, but only 6 is asked.
        stock, asks = [(5, 1)], [(6, 3)]
        self.assertLess(rest(stock, asks, 5), 0)
        self.assertEqual(short_day(stock, asks), 6)


class Free(unittest.TestCase):
    def test_against_the_plain_reckoning(self):
        met = {"none": 0, "some": 0, "all": 0, "unkept": 0}
        for stock, asks in drawn():
            for day in range(10):
                told = free(stock, asks, day)
                self.assertIs(type(told), int)
                self.assertEqual(told, self.tried(stock, asks, day), (stock, asks, day))
                kept = can_keep(stock, asks)
                lies = sum(amount for due, amount in stock if due >= day)
                met["unkept" if not kept else "none" if told == 0 else "all" if told == lies else "some"] += 1
        self.assertGreater(min(met.values()), 300)

    def tried(self, stock, asks, day):
        if not can_keep(stock, asks):
            return 0
        more = 0
        while can_keep(stock, asks + [(day, more + 1)]):
            more += 1
        return more

    def test_of_each_sort_of_day(self):
        stock, asks = [(4, 10), (6, 20), (9, 40)], [(3, 5), (6, 30), (8, 22)]
        # The rests of 3, 6, 8 are 13, 8, 18.
        for day, right in [(0, 13), (3, 13), (4, 13), (5, 8), (6, 8), (7, 8), (8, 8), (9, 8), (10, 0), (9999, 0)]:
            self.assertEqual(free(stock=stock, asks=asks, day=day), right, day)
        stock, asks = [(4, 10), (6, 2), (9, 40)], [(3, 5), (8, 38)]
        for day, right in [(0, 9), (3, 9), (4, 9), (5, 4), (6, 4), (7, 2), (8, 2), (9, 2), (10, 0)]:
            self.assertEqual(free(stock, asks, day), right, day)

    def test_nothing_where_asks_cant_be_kept(self):
        stock, asks = [(2, 100), (9, 1)], [(9, 2)]
        for day in range(12):
            self.assertEqual(free(stock, asks, day), 0)
        self.assertEqual(free([(2, 100)], [(1, 101)], 2), 0)
        self.assertEqual(free([(9, 100)], [(1, 101)], 2), 0)
        self.assertEqual(free([], [(1, 1)], 2), 0)

    def test_none_asked_and_none_there(self):
        self.assertEqual(free([], [], 0), 0)
        self.assertEqual(free([(3, 7)], [], 0), 7)
        self.assertEqual(free([(3, 7)], [], 3), 7)
        self.assertEqual(free([(3, 7)], [], 4), 0)
        self.assertEqual(free([(3, 7)], [(3, 7)], 3), 0)
        self.assertEqual(free([(3, 7)], [(3, 7)], 0), 0)

    def test_beyond_a_million(self):
        self.assertEqual(free([(9999, 10 ** 6)] * 200, [], 9999), 200 * 10 ** 6)
        self.assertEqual(free([(9999, 10 ** 6)] * 200, [(0, 10 ** 6)] * 7, 3), 193 * 10 ** 6)
        self.assertEqual(free([(3, 10 ** 6), (4, 10 ** 6)], [(4, 1)], 2), 2 * 10 ** 6 - 1)

    def test_with_so_many_more_all_can_be_kept_and_with_one_more_not(self):
        met = 0
        for stock, asks in drawn():
            for day in range(0, 10, 3):
                told = free(stock, asks, day)
                if told:
                    self.assertTrue(keepable(stock, asks + [(day, told)]))
                    met += 1
                self.assertFalse(keepable(stock, asks + [(day, told + 1)]))
        self.assertGreater(met, 500)


class Shares(unittest.TestCase):
    def check(self, stock, asks):
        told = shares(stock, asks)
        self.assertIs(type(told), list)
        self.assertEqual({type(row) for row in told}, {tuple} if told else set())
        self.assertEqual(told, sorted(told))
        self.assertEqual(len({row[:2] for row in told}), len(told))
        for ask, place, amount in told:
            self.assertEqual([type(ask), type(place), type(amount)], [int] * 3)
            self.assertTrue(0 <= ask < len(asks) and 0 <= place < len(stock) and amount >= 1)
            self.assertGreaterEqual(stock[place][0], asks[ask][0])
        for ask, pair in enumerate(asks):
            self.assertEqual(sum(row[2] for row in told if row[0] == ask), pair[1])
        for place, pair in enumerate(stock):
            self.assertLessEqual(sum(row[2] for row in told if row[1] == place), pair[1])
        return told

    def test_of_many(self):
        met = {"none": 0, "one pair each": 0, "several": 0}
        for stock, asks in drawn():
            if can_keep(stock, asks):
                told = self.check(stock, asks)
                met["several" if len(told) > len(asks) else "one pair each"] += 1
                self.assertEqual(shares(list(stock), list(asks)), told)
            else:
                self.assertIsNone(shares(stock, asks))
                met["none"] += 1
        self.assertGreater(min(met.values()), 100)

    def test_of_few(self):
        self.assertEqual(shares([], []), [])
        self.assertEqual(shares([(3, 1)], []), [])
        self.assertIsNone(shares([], [(3, 1)]))
        self.assertIsNone(shares([(3, 1)], [(4, 1)]))
        self.assertIsNone(shares([(3, 1)], [(3, 2)]))
        self.assertEqual(shares([(3, 1)], [(3, 1)]), [(0, 0, 1)])
        self.assertEqual(shares(stock=[(3, 5), (4, 5)], asks=[(3, 5), (4, 5)]), [(0, 0, 5), (1, 1, 5)])
        self.assertEqual(shares([(4, 5), (3, 5)], [(3, 5), (4, 5)]), [(0, 1, 5), (1, 0, 5)])
        self.assertEqual(shares([(3, 2), (3, 3)], [(3, 5)]), [(0, 0, 2), (0, 1, 3)])
        self.assertEqual(shares([(1, 9), (3, 5)], [(2, 2), (3, 3)]), [(0, 1, 2), (1, 1, 3)])

    def test_an_earlier_ask_leaves_the_late_grains_to_a_later_one(self):
        # In whatever order they stand, the grains due on 9 are the only ones for the ask of 9.
        for stock in itertools.permutations([(9, 3), (2, 3), (5, 3)]):
            for asks in itertools.permutations([(1, 3), (9, 3), (4, 3)]):
                self.check(list(stock), list(asks))
        for stock in itertools.permutations([(9, 4), (2, 3), (5, 3)]):
            for asks in itertools.permutations([(1, 2), (9, 3), (4, 4), (2, 1)]):
                self.check(list(stock), list(asks))

    def test_more_than_nine_pairs_are_by_numbers(self):
        told = self.check([(9, 1)] * 25, [(3, 2)] * 12)
        self.assertEqual([row[0] for row in told], sorted([number for number in range(12)] * 2))

    def test_two_hundred_pairs_of_the_greatest_amounts(self):
        chance = random.Random(5)
        days = [chance.randrange(10000) for number in range(200)]
        stock = [(day, 10 ** 6) for day in days]
        asks = [(day, 10 ** 6) for day in reversed(days)]
        told = self.check(stock, asks)
        self.assertEqual(sum(row[2] for row in told), 200 * 10 ** 6)
        self.assertTrue(keepable(stock, asks))
        self.assertIsNone(shares(stock, asks + [(0, 1)]))
        self.assertIsNone(shares(stock[1:], asks))
        self.assertEqual(short_day(stock, asks + [(0, 1)]), 0)
        self.assertEqual(free(stock, asks, 0), 0)
        self.check(stock, [(0, 999999)] * 200)

    def test_somewhat_more_than_two_hundred_pairs(self):
        self.check([(number, 3) for number in range(230)], [(number, 3) for number in range(230)])
        self.assertEqual(free([(5, 3)] * 230, [(5, 2)] * 230, 1), 230)


class OnesOwn(unittest.TestCase):
    def test_the_lists_handed_in_stay(self):
        for stock, asks in itertools.islice(drawn(), 200):
            kept = (list(stock), list(asks))
            rest(stock, asks, 2)
            keepable(stock, asks)
            short_day(stock, asks)
            free(stock, asks, 2)
            shares(stock, asks)
            self.assertEqual((stock, asks), kept)

    def test_the_rows_told_are_the_askers_own(self):
        stock, asks = [(3, 5), (4, 5)], [(3, 5), (4, 5)]
        told = shares(stock, asks)
        told.clear()
        told.append("changed")
        self.assertEqual(shares(stock, asks), [(0, 0, 5), (1, 1, 5)])
        told = shares(stock, asks)
        stock.clear()
        asks.clear()
        self.assertEqual(told, [(0, 0, 5), (1, 1, 5)])
        self.assertIsNot(shares([], []), shares([], []))

    def test_the_order_of_pairs_does_not_matter(self):
        for stock, asks in itertools.islice(drawn(), 300):
            for turned, other in [(stock[::-1], asks), (stock, asks[::-1]), (sorted(stock), sorted(asks))]:
                self.assertEqual(keepable(turned, other), keepable(stock, asks))
                self.assertEqual(short_day(turned, other), short_day(stock, asks))
                for day in range(10):
                    self.assertEqual(free(turned, other, day), free(stock, asks, day))


if __name__ == "__main__":
    unittest.main()
