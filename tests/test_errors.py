import unittest

from depot.errors import (
    Broken, DepotError, NoAmount, NoBin, NoDay, NoLot, NoName, NoPlan, NoPromise, NoRoom, NoRow, NoRule, NotToday,
    NoWare, StillOpen, TooLittle,
)

REFUSALS = [
    NoPlan, NoName, NoWare, NoDay, NoBin, NoLot, NoAmount, NoRoom, TooLittle, NoRule, NoPromise, Broken, NotToday,
    StillOpen, NoRow,
]


class Errors(unittest.TestCase):
    def test_there_are_fifteen_refusals_of_these_names(self):
        names = (
            "NoPlan NoName NoWare NoDay NoBin NoLot NoAmount NoRoom TooLittle NoRule NoPromise Broken NotToday "
            "StillOpen NoRow"
        )
        self.assertEqual([refusal.__name__ for refusal in REFUSALS], names.split())

    def test_depot_error_is_a_value_error(self):
        self.assertTrue(issubclass(DepotError, ValueError))

    def test_each_is_a_depot_error_and_a_value_error(self):
        for refusal in REFUSALS:
            with self.subTest(refusal=refusal):
                self.assertIsNot(refusal, DepotError)
                self.assertTrue(issubclass(refusal, DepotError))
                self.assertTrue(issubclass(refusal, ValueError))

    def test_none_is_one_of_the_other_fourteen(self):
        for refusal in REFUSALS:
            others = [other for other in REFUSALS if issubclass(refusal, other)]
            self.assertEqual(others, [refusal])

    def test_each_is_made_with_a_text_or_with_nothing(self):
        for refusal in [DepotError] + REFUSALS:
            with self.subTest(refusal=refusal):
                self.assertEqual(str(refusal("why it is so")), "why it is so")
                self.assertEqual(str(refusal()), "")

    def test_each_is_raised_and_taken_by_its_name(self):
        for refusal in REFUSALS:
            with self.assertRaises(refusal):
                raise refusal("why")
            with self.assertRaises(DepotError):
                raise refusal()


if __name__ == "__main__":
    unittest.main()
