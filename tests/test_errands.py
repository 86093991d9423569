import random
import unittest

from helper import (
    least, odd_things, plain_length, plain_stops, shown, step_by_step, ways, wrong_bins, wrong_plans,
)

from depot.errands import errand
from depot.errors import NoBin, NoPlan
from depot.plans import bins_of
from depot.walks import length, stops, walk

PLAN = (4, 5, 3)


def some_rows(chance, plan, most):
    """Rows of few bins, lots and amounts, so that like ones are among them."""
    bins = [chance.choice(bins_of(plan)) for turn in range(chance.randrange(1, 9))]
    return [
        (chance.choice(bins), chance.choice([0, 2, 10, 999]), chance.randrange(1, 4))
        for turn in range(chance.randrange(most))
    ]


class Errands(unittest.TestCase):
    def check(self, plan, rows):
        """The walk and the rows that are told, held beside all walks by the rule and a plain order of the rows."""
        kept = list(rows)
        told = errand(plan, rows)
        self.assertEqual(rows, kept)
        self.assertEqual([type(told), len(told), type(told[0]), type(told[1])], [tuple, 2, list, list])
        spots, ordered = told
        bins = [spot for spot, lot, amount in rows]
        every = ways(plan, bins)
        right = min(plain_length(plan, way) for way in every)
        self.assertEqual(plain_length(plan, spots), right)
        shortest = [step_by_step(plan, way) for way in every if plain_length(plan, way) == right]
        self.assertIn(step_by_step(plan, spots), shortest)
        turns = plain_stops(plan, spots, bins)
        numbered = sorted((turns.index(row[0]), row[1], number) for number, row in enumerate(rows))
        self.assertEqual(ordered, [rows[number] for turn, lot, number in numbered], (plan, rows))
        return told

    def test_of_no_rows_the_door_alone_and_no_rows(self):
        for plan in (PLAN, (1, 1, 1), (26, 99, 20)):
            self.assertEqual(errand(plan, []), ([(0, 0)], []))

    def test_of_one_row(self):
        spots, rows = self.check(PLAN, [((2, 3), 7, 5)])
        self.assertEqual(rows, [((2, 3), 7, 5)])
        self.assertEqual(length(PLAN, spots), 2 * (6 + 3))
        self.assertEqual(spots, walk(PLAN, [(2, 3)]))

    def test_the_arguments_names(self):
        self.assertEqual(errand(plan=PLAN, rows=[((0, 1), 0, 1)])[1], [((0, 1), 0, 1)])

    def test_through_one_aisle_and_back_through_the_next(self):
        rows = [((1, 1), 0, 1), ((0, 5), 1, 2), ((1, 5), 2, 3), ((0, 1), 3, 4)]
        spots, ordered = self.check(PLAN, rows)
        self.assertEqual(step_by_step(PLAN, spots), step_by_step(PLAN, [(0, 0), (0, 6), (1, 6), (1, 0), (0, 0)]))
        self.assertEqual(ordered, [((0, 1), 3, 4), ((0, 5), 1, 2), ((1, 5), 2, 3), ((1, 1), 0, 1)])

    def test_from_the_back_into_an_aisle_and_out_again(self):
        rows = [((1, 4), 0, 1), ((1, 5), 0, 1), ((0, 5), 0, 1), ((2, 1), 0, 1), ((2, 5), 0, 1)]
        ordered = self.check(PLAN, rows)[1]
        self.assertEqual([row[0] for row in ordered], [(0, 5), (1, 5), (1, 4), (2, 5), (2, 1)])

    def test_not_by_bins_nor_by_lots_where_the_walk_goes_otherwise(self):
        rows = [((1, 1), 0, 1), ((1, 5), 9, 1), ((0, 5), 5, 1)]
        self.assertEqual([row[0] for row in self.check(PLAN, rows)[1]], [(0, 5), (1, 5), (1, 1)])

    def test_rows_of_one_bin_by_lots(self):
        rows = [((0, 2), 10, 1), ((0, 1), 3, 4), ((0, 2), 2, 9), ((0, 2), 999, 2), ((0, 2), 0, 5), ((0, 1), 1, 6)]
        self.assertEqual(self.check(PLAN, rows)[1], [
            ((0, 1), 1, 6), ((0, 1), 3, 4), ((0, 2), 0, 5), ((0, 2), 2, 9), ((0, 2), 10, 1), ((0, 2), 999, 2),
        ])

    def test_rows_of_one_bin_and_lot_as_they_came(self):
        rows = [((0, 2), 1, 5), ((0, 2), 0, 8), ((0, 2), 1, 2), ((0, 2), 0, 3), ((0, 2), 1, 9), ((0, 2), 0, 6)]
        self.assertEqual(self.check(PLAN, rows)[1], [
            ((0, 2), 0, 8), ((0, 2), 0, 3), ((0, 2), 0, 6), ((0, 2), 1, 5), ((0, 2), 1, 2), ((0, 2), 1, 9),
        ])

    def test_like_rows_stay_as_many(self):
        rows = [((0, 2), 1, 5), ((1, 1), 0, 1), ((0, 2), 1, 5), ((1, 1), 0, 1), ((0, 2), 1, 5)]
        self.assertEqual(self.check(PLAN, rows)[1], [((0, 2), 1, 5)] * 3 + [((1, 1), 0, 1)] * 2)

    def test_drawn_rows(self):
        for seed in range(500):
            chance = random.Random(seed)
            plan = (chance.randrange(1, 7), chance.randrange(1, 9), chance.randrange(1, 21))
            rows = some_rows(chance, plan, 15)
            spots, ordered = self.check(plan, rows)
            bins = [row[0] for row in rows]
            self.assertEqual(spots, walk(plan, bins))
            self.assertEqual(list(dict.fromkeys(row[0] for row in ordered)), stops(plan, spots, bins))

    def test_the_walk_is_the_same_in_whatever_order_the_rows_come(self):
        for seed in range(50):
            chance = random.Random(seed)
            plan = (chance.randrange(1, 6), chance.randrange(1, 6), chance.randrange(1, 4))
            rows = some_rows(chance, plan, 12)
            mixed = chance.sample(rows, len(rows))
            self.assertEqual(errand(plan, mixed)[0], errand(plan, rows)[0])
            self.assertEqual(errand(plan, rows), errand(plan, rows))

    def test_rows_by_all_bins_of_the_greatest_walks(self):
        for plan in [(26, 99, 1), (26, 99, 20), (1, 99, 3), (26, 1, 3)]:
            chance = random.Random(1)
            every = bins_of(plan)
            bins = chance.sample(every, min(len(every), 600))
            rows = [(spot, chance.randrange(1000), 1) for spot in bins]
            spots, ordered = errand(plan, rows)
            self.assertEqual(plain_length(plan, spots), least(plan, bins))
            turns = {spot: turn for turn, spot in enumerate(plain_stops(plan, spots, bins))}
            self.assertEqual([turns[row[0]] for row in ordered], list(range(len(rows))))
            self.assertEqual(sorted(ordered), sorted(rows))

    def test_no_plan_ahead_of_all(self):
        for plan in wrong_plans():
            for rows in ([], [((0, 1), 0, 1)], [((99, 99), 0, 1)], [(None, 0, 1)], [None], None):
                with self.assertRaises(NoPlan, msg=shown(plan)):
                    errand(plan, rows)

    def test_no_bin(self):
        for thing in wrong_bins(PLAN) + [(3, 6), (4, 5), (0, -1), ("0", 1), 0, 7, "D05"] + odd_things():
            right = ((0, 1), 0, 1)
            wrong = (thing, 0, 1)
            for rows in ([wrong], [right, wrong], [wrong, right], [right, ((3, 5), 2, 9), wrong, right]):
                kept = list(rows)
                with self.assertRaises(NoBin, msg=shown(thing)):
                    errand(PLAN, rows)
                self.assertEqual([id(row) for row in rows], [id(row) for row in kept])
        self.check(PLAN, [((3, 5), 0, 1), ((0, 1), 0, 1)])

    def test_a_bin_of_a_greater_plan_is_none_of_a_lesser_one(self):
        for spot in [(4, 1), (0, 6), (3, 6), (25, 99)]:
            self.assertEqual(errand((26, 99, 1), [(spot, 0, 1)])[1], [(spot, 0, 1)])
            with self.assertRaises(NoBin):
                errand(PLAN, [(spot, 0, 1)])

    def test_the_rows_handed_in_stay_and_what_is_told_is_the_askers_own(self):
        rows = [((2, 3), 1, 1), ((0, 1), 2, 2), ((2, 3), 0, 3)]
        told = errand(PLAN, rows)
        kept = (list(told[0]), list(told[1]))
        self.assertEqual(rows, [((2, 3), 1, 1), ((0, 1), 2, 2), ((2, 3), 0, 3)])
        rows.clear()
        self.assertEqual(told, kept)
        told[0].clear()
        told[1].clear()
        self.assertEqual(errand(PLAN, [((2, 3), 1, 1), ((0, 1), 2, 2), ((2, 3), 0, 3)]), kept)
        one = errand(PLAN, [])
        one[0].append((3, 3))
        one[1].append(((0, 1), 0, 1))
        self.assertEqual(errand(PLAN, []), ([(0, 0)], []))

    def test_rows_that_are_in_order_already_are_told_as_another_list(self):
        rows = [((0, 1), 0, 1), ((0, 2), 0, 1)]
        told = errand(PLAN, rows)[1]
        self.assertEqual(told, rows)
        told.append(((0, 3), 0, 1))
        self.assertEqual(len(rows), 2)


if __name__ == "__main__":
    unittest.main()
