import itertools
import random
import unittest

from helper import WRONG_AMOUNTS, WRONG_DAYS, WRONG_WARES, Reckoning, ladder, odd_things, shown, some_deed

from depot.errors import NoAmount, NoDay, NoWare, TooLittle
from depot.houses import House
from depot.picking import picked, pieces_of
from depot.rules import rule_of
from depot.stores import Store

PLAN = (12, 15, 4)


def seen(house):
    return house.plan(), house.today(), house.lots(), house.rows(), house.lying()


def some_house():
    """Oats in lots 0, 2 and 4, oat in lot 1, oatsa in lot 3; lot 2 in four bins, bin (2, 10) with four lots."""
    house = House(PLAN)
    house.come("oats", 3, (2, 10), 10)
    house.come("oat", 9, (2, 10), 20)
    house.next_day()
    house.come("oats", 5, (10, 1), 40)
    house.come("oatsa", 9, (2, 10), 80)
    house.next_day()
    house.come("oats", 9999, (2, 10), 160)
    for number, spot in enumerate([(2, 9), (0, 15), (2, 10)]):
        house.move(2, (10, 1), spot, number + 1)
    return house


class Pieces(unittest.TestCase):
    def test_by_bins_then_by_lots(self):
        self.assertEqual(pieces_of(some_house(), "oats", 0), [
            ((0, 15), 2, 2, 5, 1), ((2, 9), 2, 1, 5, 1), ((2, 10), 0, 10, 3, 0), ((2, 10), 2, 3, 5, 1),
            ((2, 10), 4, 160, 9999, 2), ((10, 1), 2, 34, 5, 1),
        ])

    def test_of_lots_due_that_day_or_later(self):
        house = some_house()
        due = {0: 3, 2: 5, 4: 9999}
        every = pieces_of(house, "oats", 0)
        for day in (0, 1, 2, 3, 4, 5, 6, 9998, 9999):
            right = [piece for piece in every if due[piece[1]] >= day]
            self.assertEqual(pieces_of(house, "oats", day), right, day)
        self.assertEqual(len(pieces_of(house, "oats", 3)), 6)
        self.assertEqual(len(pieces_of(house, "oats", 4)), 5)
        self.assertEqual(pieces_of(house, "oats", 9999), [((2, 10), 4, 160, 9999, 2)])

    def test_a_day_ahead_of_the_house_s(self):
        house = some_house()
        while house.today() < 8:
            house.next_day()
        self.assertEqual(len(pieces_of(house, "oats", 0)), 6)
        self.assertEqual(len(pieces_of(house, "oats", 5)), 5)
        self.assertEqual(len(pieces_of(house, "oats", 8)), 1)

    def test_wares_alike_but_for_a_sign(self):
        house = some_house()
        self.assertEqual(pieces_of(house, "oat", 0), [((2, 10), 1, 20, 9, 0)])
        self.assertEqual(pieces_of(house, "oatsa", 9), [((2, 10), 3, 80, 9, 1)])
        self.assertEqual(pieces_of(house, "oatsa", 10), [])
        for ware in ("oa", "ats", "oatt", "oatsab", "soat", "o"):
            self.assertEqual(pieces_of(house, ware, 0), [])

    def test_none(self):
        for house in (House(PLAN), some_house()):
            answer = pieces_of(house, "rye", 0)
            self.assertEqual(answer, [])
            self.assertIs(type(answer), list)

    def test_where_nothing_lies_any_more(self):
        house = some_house()
        house.go(2, (2, 9), 1)
        house.count(0, (2, 10), 0)
        house.move(2, (10, 1), (0, 15), 34)
        self.assertEqual(pieces_of(house, "oats", 0), [
            ((0, 15), 2, 36, 5, 1), ((2, 10), 2, 3, 5, 1), ((2, 10), 4, 160, 9999, 2),
        ])

    def test_aisles_and_places_of_one_and_of_two_figures(self):
        house = House(PLAN)
        spots = [(aisle, place) for aisle in (1, 2, 10, 11) for place in (1, 2, 9, 10, 11)]
        mixed = list(spots)
        random.Random(1).shuffle(mixed)
        for lot in range(12):
            house.come("oats", 9, mixed[lot], 50)
        for lot, spot in itertools.product((11, 2, 10, 0), mixed):
            # To the bin itself nothing is brought, so each of the four lots lies in every bin.
            if spot != mixed[lot]:
                house.move(lot, mixed[lot], spot, 1)
        told = [piece[:2] for piece in pieces_of(house, "oats", 0)]
        right = [(spot, lot) for spot in spots for lot in range(12) if lot in (0, 2, 10, 11) or mixed[lot] == spot]
        self.assertEqual(told, right)

    def test_kinds_of_what_is_told(self):
        for piece in pieces_of(house=some_house(), ware="oats", day=0):
            self.assertEqual([type(thing) for thing in piece], [tuple, int, int, int, int])
            self.assertIs(type(piece), tuple)

    def test_refused_from_the_left(self):
        house = some_house()
        right = seen(house)
        for things, refusal in ladder([("oats", WRONG_WARES, NoWare), (3, WRONG_DAYS, NoDay)]):
            with self.assertRaises(refusal, msg=things):
                pieces_of(house, *things)
        for thing in odd_things():
            with self.assertRaises(NoWare, msg=shown(thing)):
                pieces_of(house, thing, 0)
            with self.assertRaises(NoWare, msg=shown(thing)):
                pieces_of(house, thing, -1)
            with self.assertRaises(NoDay, msg=shown(thing)):
                pieces_of(house, "oats", thing)
            with self.assertRaises(NoDay, msg=shown(thing)):
                pieces_of(House(PLAN), "rye", thing)
        self.assertEqual(seen(house), right)

    def test_the_house_stays_as_it_is(self):
        house = some_house()
        right = seen(house)
        for day in (0, 4, 9999):
            pieces_of(house, "oats", day).clear()
            pieces_of(house, "oats", day).append("changed")
        self.assertEqual(seen(house), right)
        self.assertEqual(len(pieces_of(house, "oats", 0)), 6)

    def test_what_was_told_stays_behind_the_next_deed(self):
        house = some_house()
        told = pieces_of(house, "oats", 0)
        kept = list(told)
        house.go(4, (2, 10), 160)
        house.come("oats", 9, (0, 1), 5)
        house.next_day()
        house.count(0, (2, 10), 1)
        self.assertEqual(told, kept)
        self.assertNotEqual(pieces_of(house, "oats", 0), kept)

    def test_of_a_store(self):
        store = Store(PLAN)
        store.come("oats", 3, (2, 10), 10)
        store.promise("oats", 4, 2)
        self.assertEqual(pieces_of(store, "oats", 3), [((2, 10), 0, 10, 3, 0)])

    def test_against_a_plain_reckoning(self):
        plan = (3, 5, 4)
        for seed in range(6):
            chance = random.Random(seed)
            house, plain = House(plan, 40), Reckoning(plan, 40)
            for turn in range(120):
                deed, things = some_deed(plain, chance, 1000)
                if not plain.refusal(deed, things):
                    getattr(house, deed)(*things)
                    getattr(plain, deed)(*things)
                for ware, day in itertools.product(("oats", "rye"), (0, plain.day, plain.day + 2)):
                    self.assertEqual(pieces_of(house, ware, day), plain.pieces(ware, day))


class Picked(unittest.TestCase):
    # In turn by due: lots 1, 0 (two pieces, by bin), 2.
    PIECES = [((0, 3), 0, 20, 5, 0), ((1, 1), 1, 7, 4, 2), ((0, 2), 0, 10, 5, 0), ((0, 2), 2, 30, 6, 1)]
    TURN = [((1, 1), 1, 7), ((0, 2), 0, 10), ((0, 3), 0, 20), ((0, 2), 2, 30)]

    def test_each_piece_is_taken_whole_and_the_last_in_part(self):
        rule = rule_of("due")
        for amount, rows in [
            (1, [((1, 1), 1, 1)]),
            (6, [((1, 1), 1, 6)]),
            (7, [((1, 1), 1, 7)]),
            (8, [((1, 1), 1, 7), ((0, 2), 0, 1)]),
            (17, [((1, 1), 1, 7), ((0, 2), 0, 10)]),
            (36, [((1, 1), 1, 7), ((0, 2), 0, 10), ((0, 3), 0, 19)]),
            (38, [((1, 1), 1, 7), ((0, 2), 0, 10), ((0, 3), 0, 20), ((0, 2), 2, 1)]),
            (66, self.TURN[:3] + [((0, 2), 2, 29)]),
            (67, self.TURN),
        ]:
            self.assertEqual(picked(self.PIECES, rule, amount), rows)

    def test_every_amount_in_pieces_of_any_order(self):
        for pieces in itertools.permutations(self.PIECES):
            for amount in range(1, 68):
                right, wanted = [], amount
                for spot, lot, lies in self.TURN:
                    if wanted:
                        right.append((spot, lot, min(lies, wanted)))
                        wanted -= right[-1][2]
                self.assertEqual(picked(list(pieces), rule_of("due"), amount), right)

    def test_another_rule_another_turn(self):
        self.assertEqual(picked(self.PIECES, rule_of("-due"), 31), [((0, 2), 2, 30), ((0, 2), 0, 1)])
        self.assertEqual(picked(self.PIECES, rule_of("amount"), 18), [((1, 1), 1, 7), ((0, 2), 0, 10), ((0, 3), 0, 1)])
        self.assertEqual(picked(self.PIECES, rule_of("-amount came"), 31), [((0, 2), 2, 30), ((0, 3), 0, 1)])
        self.assertEqual(picked(self.PIECES, rule_of("place lot"), 9), [((1, 1), 1, 7), ((0, 2), 0, 2)])
        self.assertEqual(picked(self.PIECES, rule_of("aisle -place"), 21), [((0, 3), 0, 20), ((0, 2), 0, 1)])

    def test_just_all_and_one_more(self):
        rule = rule_of("due")
        self.assertEqual(sum(row[2] for row in picked(self.PIECES, rule, 67)), 67)
        for amount in (68, 69, 1000, 10 ** 6):
            with self.assertRaises(TooLittle):
                picked(self.PIECES, rule, amount)
        for amount in (1, 10 ** 6):
            with self.assertRaises(TooLittle):
                picked([], rule, amount)
        with self.assertRaises(TooLittle):
            picked([((0, 1), 0, 1, 0, 0)], rule, 2)
        self.assertEqual(picked([((0, 1), 0, 1, 0, 0)], rule, 1), [((0, 1), 0, 1)])

    def test_great_amounts(self):
        pieces = [((0, 1), 0, 10 ** 6, 3, 0), ((0, 2), 0, 10 ** 6, 3, 0)]
        self.assertEqual(picked(pieces, rule_of("due"), 10 ** 6), [((0, 1), 0, 10 ** 6)])
        pieces = [((0, 1), 0, 10 ** 6 - 1, 3, 0), ((0, 2), 0, 10 ** 6, 3, 0)]
        self.assertEqual(picked(pieces, rule_of("due"), 10 ** 6), [((0, 1), 0, 10 ** 6 - 1), ((0, 2), 0, 1)])

    def test_no_amount_ahead_of_too_little(self):
        for pieces in (self.PIECES, []):
            for amount in WRONG_AMOUNTS + [-5, 10 ** 6 + 2, 10 ** 30, "7", 7.0, [7], (7,)] + odd_things():
                with self.assertRaises(NoAmount, msg=shown(amount)):
                    picked(pieces, rule_of("due"), amount)

    def test_what_is_handed_in_stays(self):
        pieces = list(self.PIECES)
        picked(pieces, rule_of("due"), 20)
        for amount in (68, 0):
            with self.assertRaises((TooLittle, NoAmount)):
                picked(pieces, rule_of("due"), amount)
        self.assertEqual(pieces, self.PIECES)

    def test_what_is_told_is_the_askers_own(self):
        pieces, rule = list(self.PIECES), rule_of("due")
        told = picked(pieces, rule, 67)
        told.reverse()
        told.pop()
        self.assertEqual(pieces, self.PIECES)
        told = picked(pieces=pieces, rule=rule, amount=67)
        self.assertIs(type(told), list)
        self.assertEqual({type(row) for row in told}, {tuple})
        pieces.clear()
        self.assertEqual(told, self.TURN)

    def test_of_a_house_and_nothing_is_done(self):
        house = some_house()
        right = seen(house)
        rows = picked(pieces_of(house, "oats", 4), rule_of("-due amount"), 165)
        self.assertEqual(rows, [((2, 10), 4, 160), ((2, 9), 2, 1), ((0, 15), 2, 2), ((2, 10), 2, 2)])
        self.assertEqual(seen(house), right)
        for spot, lot, amount in rows:
            house.go(lot, spot, amount)
        self.assertEqual(pieces_of(house, "oats", 4), [((2, 10), 2, 1, 5, 1), ((10, 1), 2, 34, 5, 1)])


if __name__ == "__main__":
    unittest.main()
