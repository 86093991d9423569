import random
import unittest

from depot.errors import (
    Broken, DepotError, NoAmount, NoBin, NoDay, NoLot, NoName, NoPlan, NoPromise, NoRoom, NoRow, NoRule, NotToday,
    NoWare, StillOpen, TooLittle,
)
from depot.texts import rows_text, word_of

WORDS = [
    (NoPlan, "plan"), (NoName, "name"), (NoWare, "ware"), (NoDay, "day"), (NoBin, "bin"), (NoLot, "lot"),
    (NoAmount, "amount"), (NoRoom, "room"), (TooLittle, "little"), (NoRule, "rule"), (NoPromise, "promise"),
    (Broken, "broken"), (NotToday, "today"), (StillOpen, "open"), (NoRow, "row"),
]


class Words(unittest.TestCase):
    def test_of_each_refusal_made_with_nothing(self):
        self.assertEqual([word_of(refusal()) for refusal, word in WORDS], [word for refusal, word in WORDS])

    def test_of_each_refusal_made_with_a_text_that_tells_nothing_here(self):
        for refusal, word in WORDS:
            for text in ["why it is so", "", "no row", "plan", "NoPlan"]:
                self.assertEqual(word_of(refusal(text)), word)

    def test_of_each_refusal_as_it_is_taken(self):
        for refusal, word in WORDS:
            try:
                raise refusal("why")
            except DepotError as error:
                self.assertEqual(word_of(error), word)

    def test_the_argument_s_name_and_what_kind_is_told(self):
        self.assertEqual(word_of(error=NoRow()), "row")
        self.assertEqual({type(word_of(refusal())) for refusal, word in WORDS}, {str})


class Rows(unittest.TestCase):
    def test_of_no_rows_none(self):
        self.assertEqual(rows_text([]), "none")
        self.assertEqual(rows_text(rows=[]), "none")

    def test_of_one_row(self):
        self.assertEqual(rows_text([((1, 7), 3, 25)]), "B07 3 25")
        self.assertEqual(rows_text([(2, (1, 7), 3, 25)]), "2 B07 3 25")
        self.assertEqual(rows_text([(0, 6)]), "0 6")
        self.assertEqual(rows_text([(5,)]), "5")
        self.assertEqual(rows_text([((0, 1),)]), "A01")
        self.assertEqual(rows_text([("ok",)]), "ok")

    def test_of_several_rows(self):
        self.assertEqual(rows_text([(0, 6), (3, 1)]), "0 6; 3 1")
        self.assertEqual(rows_text([((0, 1), 0, 4), ((25, 99), 12, 1), ((3, 10), 5, 6)]), "A01 0 4; Z99 12 1; D10 5 6")
        self.assertEqual(rows_text([(1,), (1,), (1,)]), "1; 1; 1")

    def test_the_order_of_rows_and_things_stays(self):
        self.assertEqual(rows_text([(3, 1, 2), (2, 9), (5, 0)]), "3 1 2; 2 9; 5 0")
        self.assertEqual(rows_text([(4, (0, 1)), ((0, 1), 4)]), "4 A01; A01 4")

    def test_rows_of_different_lengths_and_many_bins_in_one(self):
        self.assertEqual(rows_text([(36, (0, 8), (2, 3), (0, 1)), (0,), ("none", "a")]), "36 A08 C03 A01; 0; none a")

    def test_texts_stay_as_they_are(self):
        self.assertEqual(rows_text([("oats", 3), ("A b;c", "x")]), "oats 3; A b;c x")
        self.assertEqual(rows_text([("come", "Oats", "007", "b07")]), "come Oats 007 b07")

    def test_bins_by_their_names_at_all_ends(self):
        for spot, name in [((0, 1), "A01"), ((0, 99), "A99"), ((25, 1), "Z01"), ((25, 99), "Z99"), ((9, 10), "J10")]:
            self.assertEqual(rows_text([(spot, 1), (1, spot)]), name + " 1; 1 " + name)

    def test_every_bin(self):
        for aisle, letter in enumerate("ABCDEFGHIJKLMNOPQRSTUVWXYZ"):
            rows = [((aisle, place), place) for place in range(1, 100)]
            right = "; ".join("%s%02d %d" % (letter, place, place) for place in range(1, 100))
            self.assertEqual(rows_text(rows), right)

    def test_numbers_below_nought(self):
        self.assertEqual(rows_text([(-1, 0, 1), (-10, -999999)]), "-1 0 1; -10 -999999")

    def test_numbers_of_as_many_figures_as_str_writes(self):
        for seed in range(300):
            chance = random.Random(seed)
            number = chance.randrange(10 ** chance.choice([1, 7, 59, 60, 61, 62, 119, 120, 121, 181, 900, 4000]))
            self.assertEqual(rows_text([(number, -number)]), str(number) + " " + str(-number))

    def test_numbers_round_powers_of_ten(self):
        for figures in list(range(1, 200)) + [300, 600, 900, 1000, 4000]:
            number = 10 ** figures
            self.assertEqual(rows_text([(number - 1,)]), "9" * figures)
            self.assertEqual(rows_text([(number,)]), "1" + "0" * figures)
            self.assertEqual(rows_text([(number + 1,)]), "1" + "0" * (figures - 1) + "1")
            self.assertEqual(rows_text([(-number,), (1 - number,)]), "-1" + "0" * figures + "; -" + "9" * figures)

    def test_numbers_of_more_figures_than_str_writes(self):
        for figures in (4299, 4300, 4301, 5000, 20000):
            self.assertEqual(rows_text([(10 ** figures,)]), "1" + "0" * figures)
            self.assertEqual(rows_text([(-10 ** figures, 3)]), "-1" + "0" * figures + " 3")
            self.assertEqual(rows_text([(1 - 10 ** figures,)]), "-" + "9" * figures)
            self.assertEqual(rows_text([(12345 * 10 ** figures + 6789,)]), "12345" + "6789".zfill(figures))

    def test_the_list_handed_in_stays(self):
        rows = [((1, 7), 3), (-2, "ok"), [5, (0, 1)]]
        self.assertEqual(rows_text(rows), "B07 3; -2 ok; 5 A01")
        self.assertEqual(rows, [((1, 7), 3), (-2, "ok"), [5, (0, 1)]])
        none = []
        rows_text(none)
        self.assertEqual(none, [])


if __name__ == "__main__":
    unittest.main()
