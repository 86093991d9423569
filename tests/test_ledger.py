import random
import unittest

from helper import Reckoning, odd_things, shown, some_deed, wrong_plans

from depot.errors import DepotError, NoAmount, NoPlan, NoRow
from depot.houses import House
from depot.ledger import house_of, left_of, lying_by

PLAN = (3, 5, 4)

ROWS = [
    ("come", 0, "oats", 3, (1, 2), 9),
    ("come", 1, "rye", 0, (0, 5), 4),
    ("move", 0, (1, 2), (0, 5), 5),
    ("go", 1, (0, 5), 1),
    ("count", 0, (1, 2), 4, 2),
    ("count", 1, (1, 2), 0, 6),
    ("day", 1),
    ("count", 0, (0, 5), 5, 5),
    ("come", 2, "oats", 1, (2, 1), 20),
    ("day", 2),
    ("go", 2, (2, 1), 20),
    ("move", 1, (1, 2), (1, 2), 6),
]

LYING = {(0, 5): {0: 5, 1: 3}, (1, 2): {0: 2, 1: 6}}


def in_order(told):
    return [(spot, list(held.items())) for spot, held in told.items()]


def seen(house):
    return house.plan(), house.today(), house.lots(), house.rows(), in_order(house.lying())


def with_row(number, row):
    return ROWS[:number] + [row] + ROWS[number + 1:]


def with_thing(number, where, thing):
    row = ROWS[number]
    return with_row(number, row[:where] + (thing,) + row[where + 1:])


class Case(unittest.TestCase):
    def refused(self, rows, plan=PLAN, room=20):
        with self.assertRaises(NoRow, msg=shown(rows)):
            house_of(rows, plan, room)


class Left(unittest.TestCase):
    def test_what_is_left_of_each_lot(self):
        self.assertEqual([left_of(ROWS, lot) for lot in range(3)], [7, 9, 0])
        self.assertEqual([type(left_of(ROWS, lot)) for lot in range(4)], [int] * 4)

    def test_row_by_row(self):
        right = [0, 9, 9, 9, 9, 7, 7, 7, 7, 7, 7, 7, 7]
        self.assertEqual([left_of(ROWS[:number], 0) for number in range(13)], right)
        right = [0, 0, 4, 4, 3, 3, 9, 9, 9, 9, 9, 9, 9]
        self.assertEqual([left_of(ROWS[:number], 1) for number in range(13)], right)

    def test_a_lot_that_never_came(self):
        for lot in (3, 4, 20, 999, 1000):
            self.assertEqual(left_of(ROWS, lot), 0)
        for lot in (0, 1, 999):
            self.assertEqual(left_of([], lot), 0)
            self.assertEqual(left_of([("day", 1), ("day", 2)], lot), 0)

    def test_arguments_go_by_their_names(self):
        self.assertEqual(left_of(rows=ROWS, lot=1), 9)


class Lying(unittest.TestCase):
    def test_what_lies(self):
        told = lying_by(ROWS)
        self.assertIs(type(told), dict)
        self.assertEqual({type(held) for held in told.values()}, {dict})
        self.assertEqual(in_order(told), in_order(LYING))
        self.assertEqual(lying_by(rows=ROWS), LYING)
        self.assertEqual(lying_by([]), {})
        self.assertEqual(lying_by([("day", 1)]), {})

    def test_row_by_row(self):
        right = [
            {}, {(1, 2): {0: 9}}, {(0, 5): {1: 4}, (1, 2): {0: 9}}, {(0, 5): {0: 5, 1: 4}, (1, 2): {0: 4}},
            {(0, 5): {0: 5, 1: 3}, (1, 2): {0: 4}}, {(0, 5): {0: 5, 1: 3}, (1, 2): {0: 2}}, LYING, LYING, LYING,
            {**LYING, (2, 1): {2: 20}}, {**LYING, (2, 1): {2: 20}}, LYING, LYING,
        ]
        self.assertEqual([in_order(lying_by(ROWS[:number])) for number in range(13)], [in_order(one) for one in right])

    def test_order_and_nothing_of_0(self):
        rows = [("come", lot, "oats", 9, ((11 - lot) % 12, 1 + 10 * (lot % 2)), 1 + lot) for lot in range(12)]
        rows += [("move", lot, rows[lot][4], (5, 5), 1) for lot in range(11, -1, -1)]
        told = lying_by(rows)
        # Of lot 0 one grain came, and was moved: nothing is left where it first lay.
        self.assertEqual(list(told), sorted(told))
        self.assertNotIn((11, 1), told)
        self.assertEqual(list(told[(5, 5)].items()), [(lot, 1) for lot in range(12)])
        self.assertEqual(in_order(told), in_order(house_of(rows, (12, 12, 1)).lying()))

    def test_amounts_beyond_any_room_but_the_greatest(self):
        rows = [("come", 0, "oats", 0, (25, 99), 10 ** 6), ("count", 0, (0, 1), 0, 10 ** 6)]
        self.assertEqual(lying_by(rows), {(0, 1): {0: 10 ** 6}, (25, 99): {0: 10 ** 6}})
        self.assertEqual(left_of(rows, 0), 2 * 10 ** 6)


class HouseOf(Case):
    def test_a_house_that_did_these_rows(self):
        house = house_of(ROWS, PLAN, 20)
        self.assertIsInstance(house, House)
        self.assertEqual(house.plan(), PLAN)
        self.assertEqual(house.today(), 2)
        self.assertEqual(house.lots(), [("oats", 3, 0), ("rye", 0, 0), ("oats", 1, 1)])
        self.assertEqual(house.rows(), ROWS)
        self.assertEqual(in_order(house.lying()), in_order(LYING))

    def test_no_rows(self):
        house = house_of([], PLAN)
        self.assertEqual(seen(house), seen(House(PLAN)))
        self.assertEqual(house.come("oats", 0, (0, 1), 1000), 0)
        with self.assertRaises(DepotError):
            house.come("oats", 0, (0, 1), 1)

    def test_it_goes_on_as_a_house_with_that_room(self):
        house = house_of(rows=ROWS, plan=PLAN, room=20)
        self.assertEqual(house.come("wheat", 2, (0, 5), 12), 3)
        with self.assertRaises(DepotError):
            house.come("wheat", 2, (0, 5), 1)
        self.assertEqual(house.next_day(), 3)
        self.assertEqual(house.rows(), ROWS + [("come", 3, "wheat", 2, (0, 5), 12), ("day", 3)])

    def test_what_is_no_plan_then_what_is_no_room_then_no_rows(self):
        for plan in wrong_plans():
            for rows in (ROWS, [], None, ["no row"]):
                for room in (20, 0):
                    with self.assertRaises(NoPlan, msg=shown(plan)):
                        house_of(rows, plan, room)
        for room in [0, -1, 10 ** 6 + 1] + odd_things():
            for rows in (ROWS, [], None, ["no row"]):
                with self.assertRaises(NoAmount, msg=shown(room)):
                    house_of(rows, PLAN, room)

    def test_what_is_no_list(self):
        for rows in [tuple(ROWS), {row: True for row in ROWS}, iter(ROWS), "come", "", 0, (), {}, ROWS[0], set(ROWS)]:
            self.refused(rows)
        for rows in odd_things():
            if rows != []:
                self.refused(rows)

    def test_rows_that_are_no_tuples(self):
        for number in range(len(ROWS)):
            self.refused(with_row(number, list(ROWS[number])))
            self.refused(with_row(number, ROWS[number][0]))
        for thing in odd_things():
            self.refused([thing])
            self.refused(ROWS + [thing])
            self.refused([thing] + ROWS)

    def test_words_that_are_none(self):
        words = ["", "come ", "Come", "GO", "shift", "put", "next_day", "days", "c", None, 0, True, ["day"], ("day",), {}]
        for number in range(len(ROWS)):
            for word in words + odd_things():
                self.refused(with_thing(number, 0, word))

    def test_a_word_of_another_deed(self):
        for number, row in enumerate(ROWS):
            for word in ("come", "go", "move", "count", "day"):
                if word != row[0]:
                    self.refused(with_thing(number, 0, word))

    def test_rows_of_another_length(self):
        for number, row in enumerate(ROWS):
            for length in range(len(row)):
                self.refused(with_row(number, row[:length]))
            for more in (0, 1, None, "oats", (0, 1)):
                self.refused(with_row(number, row + (more,)))
            self.refused(with_row(number, row + row))
        self.refused([()])

    def test_a_number_one_more_or_fewer_where_only_one_is_right(self):
        told = {"come": [1], "count": [3], "day": [1]}
        for number, row in enumerate(ROWS):
            for where in told.get(row[0], []):
                for more in (-1, 1, 2, -row[where] - 1, 10 ** 30):
                    self.refused(with_thing(number, where, row[where] + more))

    def test_amounts_of_one_more_than_lay_there(self):
        self.refused(with_thing(2, 4, 10))
        self.refused(with_thing(3, 3, 5))
        self.refused(with_thing(10, 3, 21))
        self.refused(with_thing(11, 4, 7))
        self.refused(with_thing(0, 5, 21))
        self.refused(with_thing(4, 4, 21))

    def test_amounts_of_one_fewer_that_a_later_count_betrays(self):
        self.refused(with_thing(0, 5, 8))
        self.refused(with_thing(2, 4, 4))
        self.refused(with_thing(2, 4, 6))

    def test_numbers_below_nought(self):
        for number, row in enumerate(ROWS):
            for where in range(1, len(row)):
                if isinstance(row[where], int):
                    self.refused(with_thing(number, where, -1))
                    self.refused(with_thing(number, where, -10 ** 5000))

    def test_other_kinds_in_each_place(self):
        for number, row in enumerate(ROWS):
            for where in range(1, len(row)):
                for thing in odd_things():
                    self.refused(with_thing(number, where, thing))
                if isinstance(row[where], int):
                    for thing in (str(row[where]), float(row[where]), [row[where]], (row[where],)):
                        self.refused(with_thing(number, where, thing))

    def test_truths_in_the_place_of_the_number_that_they_are_like(self):
        one = [("come", 0, "oats", 1, (1, 1), 1), ("come", 1, "oats", 0, (1, 1), 1), ("day", 1), ("go", 1, (1, 1), 1)]
        one += [("move", 0, (1, 1), (0, 1), 1), ("count", 0, (0, 1), 1, 1), ("count", 1, (0, 1), 0, 1)]
        one += [("count", 0, (0, 1), 1, 0)]
        self.assertEqual(house_of(one, PLAN).rows(), one)
        for number, row in enumerate(one):
            for where, thing in enumerate(row):
                if thing in (0, 1) and isinstance(thing, int):
                    wrong = row[:where] + (bool(thing),) + row[where + 1:]
                    self.assertEqual(wrong, row)
                    self.refused(one[:number] + [wrong] + one[number + 1:], PLAN, 1000)
                    wrong = row[:where] + (float(thing),) + row[where + 1:]
                    self.refused(one[:number] + [wrong] + one[number + 1:], PLAN, 1000)
                if isinstance(thing, tuple):
                    for spot in (list(thing), (thing[0], True), (bool(thing[0]), thing[1])):
                        wrong = row[:where] + (spot,) + row[where + 1:]
                        self.refused(one[:number] + [wrong] + one[number + 1:], PLAN, 1000)

    def test_bins_that_are_none(self):
        for number, row in enumerate(ROWS):
            for where, thing in enumerate(row):
                if isinstance(thing, tuple):
                    for spot in (list(thing), (3, 1), (0, 0), (0, 6), (-1, 1), "A01", thing + (1,), None):
                        self.refused(with_thing(number, where, spot))

    def test_wares_and_days_that_are_none(self):
        for ware in ("", "Oats", "oats1", "abcdefghijklm", None, 5, ["oats"]):
            self.refused(with_thing(0, 2, ware))
        for due in (-1, 10000, "3", None, [3]):
            self.refused(with_thing(0, 3, due))
        self.refused(with_thing(8, 3, 0))
        self.assertEqual(house_of(with_thing(8, 3, 9999), PLAN, 20).lots()[2], ("oats", 9999, 1))

    def test_a_row_left_out(self):
        # A right count, a move to the same bin, and what nothing later needs can be left out.
        for number in (0, 1, 2, 6, 8):
            self.refused(ROWS[:number] + ROWS[number + 1:])
        rows = [("come", 0, "oats", 0, (0, 1), 5), ("go", 0, (0, 1), 2), ("count", 0, (0, 1), 3, 4), ("day", 1)]
        self.refused([rows[0]] + rows[2:])
        self.refused(rows[1:])

    def test_a_row_told_twice(self):
        for number in (0, 1, 2, 4, 5, 6, 8, 9, 10):
            self.refused(ROWS[:number + 1] + ROWS[number:])

    def test_a_row_exchanged_with_the_next_one(self):
        # Two lots; a lot that is due on day 1, and day 2.
        for number in (0, 8):
            self.refused(ROWS[:number] + [ROWS[number + 1], ROWS[number]] + ROWS[number + 2:])
        come, other = ("come", 0, "oats", 0, (0, 1), 5), ("come", 0, "oats", 9, (0, 1), 5)
        self.refused([("day", 2), ("day", 1)])
        self.refused([("go", 0, (0, 1), 5), come])
        self.refused([("day", 1), come])
        self.assertEqual(house_of([("day", 1), other], PLAN).lots(), [("oats", 9, 1)])
        self.refused([come, ("count", 0, (0, 1), 3, 3), ("go", 0, (0, 1), 2)])
        self.refused([come, ("go", 0, (0, 2), 2), ("move", 0, (0, 1), (0, 2), 2)])

    def test_days_that_are_not_the_next_one(self):
        for day in (0, 2, 3, 9999, 10000, -1):
            self.refused([("day", day)])
            self.refused([("day", 1), ("day", day if day != 2 else 1)])
        days = [("day", day) for day in range(1, 10000)]
        self.assertEqual(house_of(days, PLAN).today(), 9999)
        self.refused(days + [("day", 10000)])
        self.refused(days + [("day", 9999)])

    def test_a_count_whose_before_was_not_so(self):
        rows = [("come", 0, "oats", 0, (0, 1), 5)]
        for before in (0, 1, 4, 6, -5, 10 ** 30):
            self.refused(rows + [("count", 0, (0, 1), before, 5)])
            self.refused(rows + [("count", 0, (0, 1), before, 0)])
        self.refused(rows + [("count", 0, (0, 2), 5, 5)])
        self.assertEqual(house_of(rows + [("count", 0, (0, 1), 5, 0)], PLAN).lying(), {})
        self.assertEqual(house_of(rows + [("count", 0, (0, 2), 0, 0)], PLAN).lying(), {(0, 1): {0: 5}})

    def test_lots_that_did_not_come(self):
        for row in [("go", 0, (0, 1), 1), ("move", 0, (0, 1), (0, 2), 1), ("count", 0, (0, 1), 0, 0)]:
            self.refused([row])
            self.refused([row, ("come", 0, "oats", 0, (0, 1), 1)])

    def test_a_lesser_room(self):
        self.assertEqual(house_of(ROWS, PLAN, 20).rows(), ROWS)
        self.assertEqual(house_of(ROWS, PLAN).rows(), ROWS)
        for room in (19, 10, 1):
            self.refused(ROWS, PLAN, room)
        self.refused([("come", 0, "oats", 0, (0, 1), 1001)], PLAN, 1000)
        with self.assertRaises(NoRow):
            house_of([("come", 0, "oats", 0, (0, 1), 1001)], PLAN)

    def test_another_plan(self):
        self.assertEqual(house_of(ROWS, (3, 5, 20), 20).plan(), (3, 5, 20))
        self.assertEqual(house_of(ROWS, (26, 99, 1), 20).rows(), ROWS)
        self.refused(ROWS, (2, 5, 4), 20)
        self.refused(ROWS, (3, 4, 4), 20)

    def test_a_thousand_lots_and_one_more(self):
        rows = [("come", lot, "oats", 0, (0, 1), 1) for lot in range(1001)]
        self.assertEqual(len(house_of(rows[:1000], PLAN, 2000).lots()), 1000)
        self.refused(rows, PLAN, 2000)

    def test_what_is_handed_in_stays_and_is_not_kept(self):
        rows = list(ROWS)
        house = house_of(rows, PLAN, 20)
        left_of(rows, 0)
        lying_by(rows)
        self.assertEqual(rows, ROWS)
        house.next_day()
        house.rows().clear()
        self.assertEqual(rows, ROWS)
        right = seen(house)
        rows.reverse()
        rows.append("no row")
        rows.pop(0)
        self.assertEqual(seen(house), right)
        rows.clear()
        self.assertEqual(seen(house), right)

    def test_rows_that_are_refused_stay(self):
        rows = list(ROWS) + [["day", 3]]
        self.refused(rows)
        self.assertEqual(rows, ROWS + [["day", 3]])

    def test_what_is_told_is_the_askers_own(self):
        told = lying_by(ROWS)
        told[(0, 5)][0] = 99
        told[(1, 2)].clear()
        told[(9, 9)] = {}
        self.assertEqual(lying_by(ROWS), LYING)
        one, other = house_of(ROWS, PLAN, 20), house_of(ROWS, PLAN, 20)
        one.next_day()
        one.go(0, (0, 5), 5)
        self.assertEqual(other.rows(), ROWS)
        self.assertEqual(other.lying(), LYING)


class Reckoned(Case):
    """A house, its rows, and a house of these, over many deeds, right ones and refused ones."""

    def test_many_deeds(self):
        for seed, room in enumerate([5, 8, 12, 20, 40, 1000]):
            self.reckon(random.Random(100 + seed), room)

    def do(self, house, deed, things):
        try:
            return getattr(house, deed)(*things)
        except DepotError as error:
            return type(error)

    def reckon(self, chance, room):
        house, again, plain = House(PLAN, room), House(PLAN, room), Reckoning(PLAN, room)
        for turn in range(200):
            deed, things = some_deed(plain, chance, 6)
            right = plain.refusal(deed, things)
            right = right or getattr(plain, deed)(*things)
            self.assertEqual(self.do(house, deed, things), right)
            # The house that was made of the rows goes on as the first one.
            self.assertEqual(self.do(again, deed, things), right)
            self.assertEqual(seen(again), seen(house))
            rows = house.rows()
            self.assertEqual(rows, plain.rows)
            self.assertEqual(in_order(lying_by(rows)), in_order(plain.lying()))
            self.assertEqual(in_order(house.lying()), in_order(plain.lying()))
            for lot in range(len(plain.lots)):
                self.assertEqual(left_of(rows, lot), plain.left(lot))
            self.assertEqual(left_of(rows, len(plain.lots)), 0)
            again = house_of(rows, PLAN, room)
            self.assertEqual(rows, plain.rows)
            self.assertEqual(seen(again), seen(house))

    def test_rows_that_were_changed(self):
        met = {True: 0, False: 0}
        for seed, room in enumerate([8, 12, 20, 40]):
            chance = random.Random(200 + seed)
            rows = self.rows_of_some_house(chance, room)
            for turn in range(400):
                self.judge(self.changed(chance, rows), room, met)
        self.assertGreater(min(met.values()), 200)

    def rows_of_some_house(self, chance, room):
        plain = Reckoning(PLAN, room)
        while len(plain.rows) < 40:
            deed, things = some_deed(plain, chance, 1000)
            if not plain.refusal(deed, things):
                getattr(plain, deed)(*things)
        return plain.rows

    def changed(self, chance, rows):
        number, way = chance.randrange(len(rows) - 1), chance.randrange(4)
        if way == 0:
            return rows[:number] + rows[number + 1:]
        if way == 1:
            return rows[:number + 1] + rows[number:]
        if way == 2:
            return rows[:number] + [rows[number + 1], rows[number]] + rows[number + 2:]
        row = list(rows[number])
        where = chance.choice([place for place, thing in enumerate(row) if isinstance(thing, int)])
        row[where] += chance.choice([-1, 1])
        return rows[:number] + [tuple(row)] + rows[number + 1:]

    def judge(self, rows, room, met):
        plain = Reckoning(PLAN, room)
        right = all(plain.does(row) for row in rows)
        met[right] += 1
        if not right:
            return self.refused(rows, PLAN, room)
        house = house_of(rows, PLAN, room)
        self.assertEqual(house.rows(), rows)
        self.assertEqual(house.lots(), plain.lots)
        self.assertEqual(in_order(house.lying()), in_order(plain.lying()))


if __name__ == "__main__":
    unittest.main()
