import random
import unittest

from helper import (
    least, odd_things, plain_length, plain_stops, shown, step_by_step, ways, wrong_bins, wrong_plans,
)

from depot.errors import NoBin, NoPlan
from depot.plans import bins_of
from depot.walks import length, stops, walk

PLAN = (4, 5, 3)


def some_walk(chance, plan):
    """A walk that keeps to [29], by no rule."""
    spots, back = [(0, 0)], plan[1] + 1
    for turn in range(chance.randrange(1, 15)):
        aisle, place = spots[-1]
        if place in (0, back) and chance.randrange(2):
            spots.append((chance.randrange(plan[0]), place))
        else:
            spots.append((aisle, chance.choice([0, back, chance.randrange(back + 1)])))
    spots += [(spots[-1][0], 0), (0, 0)]
    return [spot for number, spot in enumerate(spots) if number == 0 or spots[number - 1] != spot]


class Case(unittest.TestCase):
    def well_formed(self, plan, spots):
        self.assertIs(type(spots), list)
        self.assertEqual((spots[0], spots[-1]), ((0, 0), (0, 0)))
        for spot in spots:
            self.assertEqual([type(spot), type(spot[0]), type(spot[1])], [tuple, int, int])
            self.assertTrue(0 <= spot[0] < plan[0] and 0 <= spot[1] <= plan[1] + 1, spot)
        for one, other in zip(spots, spots[1:]):
            self.assertNotEqual(one, other)
            if one[0] != other[0]:
                self.assertEqual(one[1], other[1])
                self.assertIn(one[1], (0, plan[1] + 1))


class Lengths(Case):
    def test_the_door_alone(self):
        for plan in (PLAN, (1, 1, 1), (26, 99, 20)):
            self.assertEqual(length(plan, [(0, 0)]), 0)

    def test_in_one_aisle(self):
        self.assertEqual(length(PLAN, [(0, 0), (0, 4), (0, 0)]), 8)
        self.assertEqual(length(PLAN, [(0, 0), (0, 6), (0, 0)]), 12)
        self.assertEqual(length(PLAN, [(0, 0), (0, 4), (0, 2), (0, 5), (0, 0)]), 14)
        self.assertEqual(length(PLAN, [(0, 0), (0, 1), (0, 2), (0, 3), (0, 0)]), 6)

    def test_along_the_front(self):
        self.assertEqual(length(PLAN, [(0, 0), (1, 0), (0, 0)]), 6)
        self.assertEqual(length(PLAN, [(0, 0), (3, 0), (0, 0)]), 18)
        self.assertEqual(length(PLAN, [(0, 0), (3, 0), (1, 0), (2, 0), (0, 0)]), 24)
        self.assertEqual(length(plan=PLAN, spots=[(0, 0), (2, 0), (2, 5), (2, 0), (0, 0)]), 22)

    def test_along_the_back_and_through_aisles(self):
        self.assertEqual(length(PLAN, [(0, 0), (0, 6), (1, 6), (1, 0), (0, 0)]), 18)
        self.assertEqual(length(PLAN, [(0, 0), (0, 6), (3, 6), (3, 0), (0, 0)]), 30)
        self.assertEqual(length(PLAN, [(0, 0), (0, 6), (2, 6), (2, 3), (2, 6), (3, 6), (3, 0), (0, 0)]), 36)
        self.assertEqual(length((2, 99, 20), [(0, 0), (0, 100), (1, 100), (1, 0), (0, 0)]), 240)

    def test_against_a_walk_step_by_step(self):
        for seed in range(400):
            chance = random.Random(seed)
            plan = (chance.randrange(1, 7), chance.randrange(1, 7), chance.randrange(1, 6))
            spots = some_walk(chance, plan)
            self.well_formed(plan, spots)
            kept = list(spots)
            self.assertEqual(length(plan, spots), plain_length(plan, spots), (plan, spots))
            self.assertEqual(spots, kept)

    def test_no_plan(self):
        for plan in wrong_plans():
            for spots in ([(0, 0)], [(0, 0), (0, 1), (0, 0)], []):
                with self.assertRaises(NoPlan, msg=shown(plan)):
                    length(plan, spots)


class Walks(Case):
    def check(self, plan, bins):
        spots = walk(plan, bins)
        self.well_formed(plan, spots)
        path = step_by_step(plan, spots)
        self.assertEqual([spot for spot in bins if spot not in path], [])
        self.assertEqual(length(plan, spots), plain_length(plan, spots))
        return spots

    def check_all_ways(self, plan, bins):
        spots = self.check(plan, bins)
        every = ways(plan, bins)
        right = min(plain_length(plan, way) for way in every)
        self.assertEqual(plain_length(plan, spots), right, (plan, bins, spots))
        # It is a walk by the rule: one of these, but for ends of aisles that it goes by.
        shortest = [step_by_step(plan, way) for way in every if plain_length(plan, way) == right]
        self.assertIn(step_by_step(plan, spots), shortest)
        return spots

    def test_without_bins_the_door_alone(self):
        for plan in (PLAN, (1, 1, 1), (26, 99, 20)):
            self.assertEqual(walk(plan, []), [(0, 0)])

    def test_of_one_bin(self):
        for plan in (PLAN, (1, 1, 1), (1, 9, 2), (5, 1, 20), (3, 2, 1)):
            for spot in bins_of(plan):
                spots = self.check_all_ways(plan, [spot])
                self.assertEqual(length(plan, spots), 2 * (plan[2] * spot[0] + spot[1]))

    def test_some_walks_as_they_are_told(self):
        self.assertEqual(walk(PLAN, [(0, 4)]), [(0, 0), (0, 4), (0, 0)])
        self.assertEqual(length(PLAN, walk(plan=PLAN, bins=[(2, 1), (0, 1), (1, 1)])), 12 + 6)
        # In and back twice would be 20 steps within aisles, through both 12.
        spots = walk(PLAN, [(0, 5), (1, 5)])
        self.assertEqual(step_by_step(PLAN, spots), step_by_step(PLAN, [(0, 0), (0, 6), (1, 6), (1, 0), (0, 0)]))
        # From the back into aisle 1, which lies between two that it goes through.
        spots = walk(PLAN, [(0, 5), (1, 5), (2, 5)])
        right = [(0, 0), (0, 6), (1, 6), (1, 5), (1, 6), (2, 6), (2, 0), (0, 0)]
        self.assertEqual(step_by_step(PLAN, spots), step_by_step(PLAN, right))

    def test_by_an_aisle_without_bins_it_is_nearer_than_through_it(self):
        plan = (3, 9, 1)
        self.assertEqual(length(plan, self.check_all_ways(plan, [(0, 1), (2, 9), (2, 2)])), 4 + 2 + 18)
        self.assertEqual(length(plan, self.check_all_ways(plan, [(0, 9), (2, 9)])), 4 + 20)
        self.assertEqual(length(plan, self.check_all_ways(plan, [(1, 9), (2, 1)])), 4 + 18 + 2)
        plan = (4, 9, 1)
        self.assertEqual(length(plan, self.check_all_ways(plan, [(0, 1), (2, 9), (3, 9), (3, 1)])), 6 + 2 + 20)

    def test_every_set_of_bins_of_small_plans(self):
        for plan in [(1, 4, 3), (2, 3, 1), (2, 3, 9), (3, 2, 1), (3, 2, 4), (6, 1, 1), (4, 2, 2)]:
            every = bins_of(plan)
            for number in range(2 ** len(every)):
                self.check_all_ways(plan, [spot for place, spot in enumerate(every) if number >> place & 1])

    def test_drawn_bins_of_greater_plans(self):
        for seed in range(300):
            chance = random.Random(seed)
            plan = (chance.randrange(1, 8), chance.randrange(1, 12), chance.randrange(1, 21))
            every = bins_of(plan)
            bins = chance.sample(every, chance.randrange(1, min(len(every), 12) + 1))
            self.check_all_ways(plan, bins)

    def test_aisles_gone_through_and_in_and_back_from_either_end(self):
        # That each choice that can be the shortest is met, from the front (0) and from the back (7).
        met = set()
        for seed in range(200):
            chance = random.Random(seed)
            plan = (7, 6, 2)
            wanted = [aisle for aisle in range(7) if chance.randrange(3)]
            bins = [(aisle, chance.choice([1, 2, 5, 6])) for aisle in wanted for turn in range(2)]
            path = step_by_step(plan, self.check_all_ways(plan, bins))
            for aisle in range(max(wanted, default=-1) + 1):
                places = [spot[1] for spot in path if spot[0] == aisle]
                ends = [place for place in places if place in (0, 7)]
                inside = {place for place in places if place not in (0, 7)}
                how = "by" if not inside else "through" if ends[0] != ends[1] else "in"
                met.add((how, ends[0]))
        self.assertEqual(met, {(how, end) for how in ("through", "in", "by") for end in (0, 7)})

    def test_the_greatest_plans(self):
        for seed in range(25):
            chance = random.Random(seed)
            plan = (26, 99, chance.choice([1, 5, 20]))
            bins = chance.sample(bins_of(plan), chance.choice([1, 5, 30, 100, 600]))
            spots = self.check(plan, bins)
            self.assertEqual(plain_length(plan, spots), least(plan, bins))
        every = bins_of(plan)
        self.assertEqual(plain_length(plan, self.check(plan, every)), least(plan, every))

    def test_the_plain_reckoning_of_great_plans_is_right_for_small_ones(self):
        for seed in range(200):
            chance = random.Random(seed)
            plan = (chance.randrange(1, 7), chance.randrange(1, 9), chance.randrange(1, 6))
            bins = [chance.choice(bins_of(plan)) for turn in range(chance.randrange(1, 9))]
            self.assertEqual(least(plan, bins), min(plain_length(plan, way) for way in ways(plan, bins)))

    def test_like_bins_and_any_order_and_each_time(self):
        for seed in range(60):
            chance = random.Random(seed)
            plan = (chance.randrange(1, 7), chance.randrange(1, 7), chance.randrange(1, 4))
            bins = [chance.choice(bins_of(plan)) for turn in range(chance.randrange(1, 9))]
            right = walk(plan, bins)
            for turn in range(5):
                mixed = bins + bins[:turn]
                chance.shuffle(mixed)
                self.assertEqual(walk(plan, mixed), right)
            self.assertEqual(walk(plan, sorted(set(bins))), right)

    def test_no_plan_ahead_of_no_bin(self):
        for plan in wrong_plans():
            for bins in ([], [(0, 1)], [(99, 99)], [None], None):
                with self.assertRaises(NoPlan, msg=shown(plan)):
                    walk(plan, bins)

    def test_no_bin(self):
        for thing in wrong_bins(PLAN) + [(3, 6), (4, 5), (0, -1), ("0", 1), 0, 7] + odd_things():
            for bins in ([thing], [(0, 1), thing], [thing, (0, 1)], [(0, 1), (3, 5), thing, (2, 2)]):
                kept = list(bins)
                with self.assertRaises(NoBin, msg=shown(thing)):
                    walk(PLAN, bins)
                self.assertEqual([id(spot) for spot in bins], [id(spot) for spot in kept])
        self.check_all_ways(PLAN, [(3, 5), (0, 1)])

    def test_the_list_handed_in_stays_and_what_is_told_is_the_askers_own(self):
        bins = [(2, 3), (0, 1), (2, 3), (1, 5)]
        told = walk(PLAN, bins)
        self.assertEqual(bins, [(2, 3), (0, 1), (2, 3), (1, 5)])
        kept = list(told)
        bins.clear()
        self.assertEqual(told, kept)
        told.clear()
        self.assertEqual(walk(PLAN, [(2, 3), (0, 1), (1, 5)]), kept)
        told = walk(PLAN, [])
        told.append((3, 3))
        self.assertEqual(walk(PLAN, []), [(0, 0)])


class Stops(Case):
    def test_in_and_back(self):
        spots = [(0, 0), (0, 5), (0, 0)]
        self.assertEqual(stops(PLAN, spots, [(0, 4), (0, 1), (0, 5), (0, 2)]), [(0, 1), (0, 2), (0, 4), (0, 5)])
        self.assertEqual(stops(plan=PLAN, spots=spots, bins=[(0, 3)]), [(0, 3)])

    def test_through_an_aisle_from_the_back(self):
        spots = [(0, 0), (0, 6), (1, 6), (1, 0), (0, 0)]
        bins = [(1, 1), (0, 1), (1, 5), (0, 5), (1, 3)]
        self.assertEqual(stops(PLAN, spots, bins), [(0, 1), (0, 5), (1, 5), (1, 3), (1, 1)])

    def test_in_from_the_back_and_out_again(self):
        spots = [(0, 0), (0, 6), (1, 6), (1, 2), (1, 6), (2, 6), (2, 0), (0, 0)]
        bins = [(1, 2), (1, 3), (1, 5), (2, 1), (2, 5), (0, 3)]
        self.assertEqual(stops(PLAN, spots, bins), [(0, 3), (1, 5), (1, 3), (1, 2), (2, 5), (2, 1)])

    def test_where_it_comes_by_twice(self):
        spots = [(0, 0), (0, 3), (0, 1), (0, 5), (0, 6), (1, 6), (1, 4), (1, 6), (0, 6), (0, 0)]
        bins = [(0, 5), (0, 2), (0, 3), (1, 4), (1, 5), (0, 4)]
        self.assertEqual(stops(PLAN, spots, bins), [(0, 2), (0, 3), (0, 4), (0, 5), (1, 5), (1, 4)])

    def test_bins_told_twice(self):
        spots = [(0, 0), (0, 5), (0, 0)]
        self.assertEqual(stops(PLAN, spots, [(0, 3), (0, 1), (0, 3), (0, 1), (0, 3)]), [(0, 1), (0, 3)])

    def test_none(self):
        self.assertEqual(stops(PLAN, [(0, 0)], []), [])
        self.assertEqual(stops(PLAN, [(0, 0), (0, 5), (0, 0)], []), [])
        self.assertIs(type(stops(PLAN, [(0, 0)], [])), list)

    def test_a_long_way_along_an_end_is_not_through_aisles(self):
        spots = [(0, 0), (3, 0), (3, 6), (1, 6), (1, 0), (0, 0)]
        self.assertEqual(stops(PLAN, spots, [(1, 1), (3, 1), (1, 5), (3, 5)]), [(3, 1), (3, 5), (1, 5), (1, 1)])

    def test_of_planned_walks_and_others_against_a_walk_step_by_step(self):
        for seed in range(400):
            chance = random.Random(seed)
            plan = (chance.randrange(1, 7), chance.randrange(1, 7), chance.randrange(1, 6))
            if seed % 2:
                spots = some_walk(chance, plan)
                bins = [spot for spot in step_by_step(plan, spots) if spot[1] not in (0, plan[1] + 1)]
                bins = [spot for spot in bins if chance.randrange(2)]
            else:
                bins = [chance.choice(bins_of(plan)) for turn in range(chance.randrange(9))]
                spots = walk(plan, bins)
            chance.shuffle(bins)
            kept = (list(spots), list(bins))
            told = stops(plan, spots, bins)
            self.assertEqual(told, plain_stops(plan, spots, bins), (plan, spots, bins))
            self.assertEqual(sorted(told), sorted(set(bins)))
            self.assertEqual((spots, bins), kept)

    def test_no_plan(self):
        for plan in wrong_plans():
            with self.assertRaises(NoPlan, msg=shown(plan)):
                stops(plan, [(0, 0)], [])
            with self.assertRaises(NoPlan, msg=shown(plan)):
                stops(plan, [(0, 0), (0, 1), (0, 0)], [(0, 1)])

    def test_what_is_told_is_the_askers_own(self):
        spots, bins = [(0, 0), (0, 5), (0, 0)], [(0, 4), (0, 1)]
        told = stops(PLAN, spots, bins)
        bins.clear()
        spots.clear()
        self.assertEqual(told, [(0, 1), (0, 4)])
        told.clear()
        self.assertEqual(stops(PLAN, [(0, 0), (0, 5), (0, 0)], [(0, 4), (0, 1)]), [(0, 1), (0, 4)])


if __name__ == "__main__":
    unittest.main()
