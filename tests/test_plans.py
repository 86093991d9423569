import unittest

from helper import odd_things, shown, wrong_plans

from depot.errors import NoBin, NoPlan
from depot.plans import bin_at, bins_of, far, is_bin, is_spot, need_plan

GREATEST = (26, 99, 20)
LEAST = (1, 1, 1)
SMALL_PLANS = [
    (aisles, places, gap) for aisles in range(1, 5) for places in range(1, 5) for gap in (1, 2, 3, 7)
] + [(5, 2, 1), (2, 9, 2), (6, 1, 20)]

PLANS = [LEAST, GREATEST, (1, 99, 20), (26, 1, 20), (26, 99, 1), (1, 1, 20), (1, 99, 1), (26, 1, 1), (3, 5, 4)]


def spots_of(plan):
    return [(aisle, place) for aisle in range(plan[0]) for place in range(plan[1] + 2)]


def steps_from(plan, start):
    """A plain search: how many steps it is from a spot to every spot, as [6] tells the steps."""
    aisles, places, gap = plan
    back = places + 1
    due = {0: [start]}
    found = {}
    step = 0
    while due:
        for aisle, place in due.pop(step, []):
            if (aisle, place) in found:
                continue
            found[(aisle, place)] = step
            ways = [(aisle, place - 1, 1), (aisle, place + 1, 1)]
            if place in (0, back):
                ways += [(aisle - 1, place, gap), (aisle + 1, place, gap)]
            for there, where, cost in ways:
                if 0 <= there < aisles and 0 <= where <= back:
                    due.setdefault(step + cost, []).append((there, where))
        step += 1
    return found


class Plans(unittest.TestCase):
    def test_plans_at_their_bounds(self):
        for plan in PLANS:
            self.assertIsNone(need_plan(plan))
        for aisles in range(1, 27):
            self.assertIsNone(need_plan((aisles, 5, 4)))
        for places in range(1, 100):
            self.assertIsNone(need_plan((3, places, 4)))
        for gap in range(1, 21):
            self.assertIsNone(need_plan((3, 5, gap)))

    def test_what_is_no_plan_is_refused(self):
        for plan in wrong_plans():
            with self.subTest(plan=shown(plan)), self.assertRaises(NoPlan):
                need_plan(plan)

    def test_the_plan_is_looked_at_first(self):
        others = [(0, 1), (0, 0), 0, 1, -1, None, True, (99, 99), [0, 1], "A01", 10 ** 5000, object()]
        # No subTest here: the first plan let by ends the test, ahead of those too great to be walked.
        for plan in wrong_plans():
            with self.assertRaises(NoPlan, msg=shown(plan)):
                bins_of(plan)
            for other in others:
                for asked in (is_bin, is_spot, bin_at):
                    with self.assertRaises(NoPlan, msg=shown(plan)):
                        asked(plan, other)
                for two in [(other, other), (other, (0, 1)), ((0, 1), other)]:
                    with self.assertRaises(NoPlan, msg=shown(plan)):
                        far(plan, two[0], two[1])

    def test_arguments_go_by_their_names(self):
        plan = (3, 5, 4)
        self.assertIsNone(need_plan(plan=plan))
        self.assertIs(is_bin(plan=plan, thing=(0, 1)), True)
        self.assertIs(is_spot(plan=plan, thing=(0, 0)), True)
        self.assertEqual(len(bins_of(plan=plan)), 15)
        self.assertEqual(bin_at(plan=plan, number=5), (1, 1))
        self.assertEqual(far(plan=plan, one=(0, 1), other=(0, 3)), 2)


class BinsAndSpots(unittest.TestCase):
    def check(self, plan, thing, in_bins, in_spots):
        with self.subTest(plan=plan, thing=shown(thing)):
            self.assertIs(is_bin(plan, thing), in_bins)
            self.assertIs(is_spot(plan, thing), in_spots)

    def test_along_every_aisle(self):
        for plan in PLANS:
            for aisle in range(plan[0]):
                self.check(plan, (aisle, -1), False, False)
                self.check(plan, (aisle, 0), False, True)
                self.check(plan, (aisle, 1), True, True)
                self.check(plan, (aisle, plan[1]), True, True)
                self.check(plan, (aisle, plan[1] + 1), False, True)
                self.check(plan, (aisle, plan[1] + 2), False, False)

    def test_aisles_beyond(self):
        for plan in PLANS:
            for place in (0, 1, plan[1], plan[1] + 1):
                self.check(plan, (-1, place), False, False)
                self.check(plan, (plan[0], place), False, False)
                self.check(plan, (plan[0] + 1, place), False, False)
                self.check(plan, (10 ** 5000, place), False, False)

    def test_all_pairs_about_a_plan(self):
        plan = (3, 5, 4)
        for aisle in range(-2, 6):
            for place in range(-2, 10):
                in_aisle = aisle in (0, 1, 2)
                self.check(plan, (aisle, place), in_aisle and 1 <= place <= 5, in_aisle and 0 <= place <= 6)

    def test_things_that_are_no_pair(self):
        wrong = [[0, 1], [1, 1], (0,), (0, 1, 1), (1, 1, 1), 0, 1, "A01", "01", b"01", {0: 1}, {0: 0, 1: 1}, range(2)]
        for thing in wrong + odd_things():
            for plan in PLANS:
                self.check(plan, thing, False, False)

    def test_truths_and_other_kinds_in_a_pair(self):
        for thing in [(True, 1), (False, 1), (0, True), (1, True), (True, True), (0, False), (False, False)]:
            self.check((3, 5, 4), thing, False, False)
        for thing in [(0.0, 1), (0, 1.0), ("0", 1), (0, "1"), (None, 1), (0, None), ((0,), (1,)), ([0], [1])]:
            self.check((3, 5, 4), thing, False, False)


class OrderOfBins(unittest.TestCase):
    def test_bins_are_in_order_by_aisle_then_by_place(self):
        self.assertEqual(bins_of((2, 3, 1)), [(0, 1), (0, 2), (0, 3), (1, 1), (1, 2), (1, 3)])
        self.assertEqual(bins_of((3, 1, 5)), [(0, 1), (1, 1), (2, 1)])
        self.assertEqual(bins_of((1, 4, 20)), [(0, 1), (0, 2), (0, 3), (0, 4)])
        self.assertEqual(bins_of(LEAST), [(0, 1)])

    def test_every_bin_once_and_no_other(self):
        for plan in PLANS + SMALL_PLANS:
            bins = bins_of(plan)
            self.assertIs(type(bins), list)
            self.assertEqual(len(bins), plan[0] * plan[1])
            # Not assertEqual: to show how two long lists differ takes it minutes.
            self.assertTrue(bins == sorted(set(bins)), plan)
            for thing in bins:
                self.assertIs(type(thing), tuple)
                self.assertIs(is_bin(plan, thing), True)

    def test_the_greatest_plan(self):
        bins = bins_of(GREATEST)
        self.assertEqual(len(bins), 2574)
        self.assertEqual(bins[0], (0, 1))
        self.assertEqual(bins[98:100], [(0, 99), (1, 1)])
        self.assertEqual(bins[-1], (25, 99))
        self.assertEqual(bin_at(GREATEST, 0), (0, 1))
        self.assertEqual(bin_at(GREATEST, 98), (0, 99))
        self.assertEqual(bin_at(GREATEST, 99), (1, 1))
        self.assertEqual(bin_at(GREATEST, 2573), (25, 99))
        with self.assertRaises(NoBin):
            bin_at(GREATEST, 2574)

    def test_bin_at_goes_by_the_list(self):
        for plan in PLANS + SMALL_PLANS:
            told = [bin_at(plan, number) for number in range(plan[0] * plan[1])]
            self.assertTrue(told == bins_of(plan), plan)
            self.assertEqual({type(thing) for thing in told}, {tuple})

    def test_numbers_ahead_and_behind_have_no_bin(self):
        for plan in PLANS:
            count = plan[0] * plan[1]
            for number in [-1, -2, -count, -count - 1, count, count + 1, 10 ** 4, 10 ** 30, 10 ** 5000, -10 ** 5000]:
                with self.subTest(plan=plan, number=shown(number)), self.assertRaises(NoBin):
                    bin_at(plan, number)

    def test_what_is_no_number_has_no_bin(self):
        for number in odd_things() + ["1", "A01", (0,), (0, 1), [0], 0.0, 1.0, True, False, None, slice(0, 1)]:
            with self.subTest(number=shown(number)), self.assertRaises(NoBin):
                bin_at((3, 5, 4), number)

    def test_a_told_list_is_the_askers_own(self):
        plan = (2, 2, 1)
        right = [(0, 1), (0, 2), (1, 1), (1, 2)]
        kept = bins_of(plan)
        told = bins_of(plan)
        self.assertIsNot(kept, told)
        told.reverse()
        told.pop()
        told[0] = "changed"
        self.assertEqual(kept, right)
        self.assertEqual(bins_of(plan), right)
        self.assertEqual([bin_at(plan, number) for number in range(4)], right)
        self.assertIs(is_bin(plan, (0, 1)), True)
        self.assertEqual(far(plan, (0, 1), (1, 1)), 3)

    def test_what_is_refused_changes_nothing(self):
        plan = (2, 2, 1)
        thing = [0, 1]
        for asked in (bin_at, lambda where, one: far(where, one, one)):
            with self.assertRaises(NoBin):
                asked(plan, thing)
        wrong = [2, 2, 1]
        with self.assertRaises(NoPlan):
            bins_of(wrong)
        self.assertEqual(thing, [0, 1])
        self.assertEqual(wrong, [2, 2, 1])
        self.assertEqual(bins_of(plan), [(0, 1), (0, 2), (1, 1), (1, 2)])


class HowFar(unittest.TestCase):
    def test_in_one_aisle(self):
        self.assertEqual(far((3, 9, 4), (1, 2), (1, 7)), 5)
        self.assertEqual(far((3, 9, 4), (1, 7), (1, 2)), 5)
        self.assertEqual(far((3, 9, 4), (2, 0), (2, 10)), 10)
        self.assertEqual(far((3, 9, 4), (0, 0), (0, 1)), 1)
        self.assertEqual(far((3, 99, 1), (0, 0), (0, 100)), 100)

    def test_by_the_front_end(self):
        self.assertEqual(far((3, 9, 4), (0, 2), (1, 3)), 2 + 4 + 3)
        self.assertEqual(far((3, 9, 4), (0, 2), (2, 3)), 2 + 8 + 3)
        self.assertEqual(far((3, 9, 4), (2, 0), (0, 0)), 8)
        self.assertEqual(far((3, 9, 4), (0, 1), (1, 8)), 1 + 4 + 8)

    def test_by_the_back_end(self):
        self.assertEqual(far((3, 9, 4), (0, 8), (1, 7)), 2 + 4 + 3)
        self.assertEqual(far((3, 9, 4), (0, 8), (2, 7)), 2 + 8 + 3)
        self.assertEqual(far((3, 9, 4), (2, 10), (0, 10)), 8)
        self.assertEqual(far((3, 9, 4), (0, 2), (1, 9)), 8 + 4 + 1)

    def test_both_ways_as_long(self):
        self.assertEqual(far((3, 9, 4), (0, 5), (1, 5)), 14)
        self.assertEqual(far((3, 9, 4), (0, 2), (2, 8)), 18)
        self.assertEqual(far((3, 9, 4), (0, 0), (1, 10)), 14)

    def test_from_the_door_to_the_farthest(self):
        self.assertEqual(far(GREATEST, (0, 0), (25, 100)), 25 * 20 + 100)
        self.assertEqual(far(GREATEST, (0, 50), (25, 50)), 25 * 20 + 100)
        self.assertEqual(far(GREATEST, (0, 1), (25, 1)), 25 * 20 + 2)
        self.assertEqual(far(GREATEST, (0, 99), (25, 99)), 25 * 20 + 2)

    def test_to_itself(self):
        for plan in [LEAST, (3, 5, 4)]:
            for spot in spots_of(plan):
                self.assertEqual(far(plan, spot, spot), 0)

    def test_either_way_about_the_same(self):
        for plan in [(3, 4, 2), (4, 2, 9)]:
            for one in spots_of(plan):
                for other in spots_of(plan):
                    self.assertEqual(far(plan, one, other), far(plan, other, one))

    def test_against_a_search_step_by_step(self):
        for plan in SMALL_PLANS:
            spots = spots_of(plan)
            for one in spots:
                found = steps_from(plan, one)
                self.assertEqual(sorted(found), spots)
                for other in spots:
                    steps = far(plan, one, other)
                    self.assertIs(type(steps), int)
                    self.assertEqual(steps, found[other], (plan, one, other))

    def test_against_a_search_over_the_greatest_plan(self):
        for one in [(0, 0), (13, 50), (25, 99)]:
            found = steps_from(GREATEST, one)
            for other in spots_of(GREATEST):
                self.assertEqual(far(GREATEST, one, other), found[other], (one, other))

    def test_what_is_no_spot_is_refused(self):
        plan = (3, 5, 4)
        wrong = [(-1, 0), (3, 0), (0, -1), (0, 7), (2, 7), (3, 6), [0, 0], (0,), (0, 1, 1), (True, 1), (0, True), (0, False)]
        for thing in wrong + odd_things() + [0, 1, "A01", (10 ** 30, 0), (0, 10 ** 30), (0, "1"), (0, 1.0)]:
            with self.subTest(thing=shown(thing)):
                with self.assertRaises(NoBin):
                    far(plan, thing, (0, 1))
                with self.assertRaises(NoBin):
                    far(plan, (0, 1), thing)
                with self.assertRaises(NoBin):
                    far(plan, thing, thing)


if __name__ == "__main__":
    unittest.main()
