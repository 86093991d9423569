import unittest

from helper import odd_things, shown

from depot.errors import NoBin, NoName
from depot.names import bin_name, bin_of, is_amount, is_day, is_ware


class Wares(unittest.TestCase):
    def check(self, answer, things):
        for thing in things:
            with self.subTest(thing=shown(thing)):
                self.assertIs(is_ware(thing), answer)

    def test_texts_of_1_to_12_letters_are_wares(self):
        self.check(True, ["a", "z", "m", "ab", "oats", "zebrazebra", "abcdefghijk", "abcdefghijkl", "z" * 12])

    def test_every_small_letter_is_one(self):
        self.check(True, list("abcdefghijklmnopqrstuvwxyz"))

    def test_too_short_and_too_long(self):
        self.check(False, ["", "abcdefghijklm", "a" * 13, "a" * 14, "a" * 1000])

    def test_great_letters(self):
        self.check(False, ["A", "Z", "OATS", "Oats", "oatS", "oAts"])

    def test_other_signs(self):
        self.check(False, ["`", "{", "@", "[", "1", "oats1", "1oats", "o1ts", "oa-ts", "oa_ts", "-oats", "oats."])

    def test_blanks_and_line_ends(self):
        self.check(False, [" ", " oats", "oats ", "oa ts", "oats\n", "\noats", "oa\nts", "oats\r", "\toats", "oats\0"])

    def test_letters_that_are_not_a_to_z(self):
        self.check(False, ["\u00e9", "\u00df", "o\u00e4ts", "oats\u00e9", "\u0430", "\uff41", "\u0131", "\u017f", "\u00aa"])
        self.check(False, ["\u0561", "\U0001d41a", "\ud800", "oats\u0301"])

    def test_things_that_are_no_texts(self):
        self.check(False, [0, 1, 5, -1, 12, ["a"], ["o", "a"], ("a",), ("o", "a"), {"a": 1}, {"a"}, b"oats", bytearray(b"a")])

    def test_odd_things(self):
        self.check(False, odd_things())


class Numbers(unittest.TestCase):
    def check(self, asked, answer, things):
        for thing in things:
            with self.subTest(asked=asked.__name__, thing=shown(thing)):
                self.assertIs(asked(thing), answer)

    def test_days(self):
        self.check(is_day, True, [0, 1, 2, 500, 9998, 9999])

    def test_no_days(self):
        self.check(is_day, False, [-1, -2, -9999, 10000, 10001, 10 ** 6, 10 ** 30, -10 ** 30, 10 ** 5000, -10 ** 5000])

    def test_amounts(self):
        self.check(is_amount, True, [1, 2, 999, 1000, 9999, 10000, 999999, 10 ** 6])

    def test_no_amounts(self):
        self.check(is_amount, False, [0, -1, -2, -10 ** 6, 10 ** 6 + 1, 10 ** 6 + 2, 10 ** 7, 10 ** 30, -10 ** 30])
        self.check(is_amount, False, [10 ** 5000, -10 ** 5000])

    def test_truths_are_no_whole_numbers(self):
        self.check(is_day, False, [True, False])
        self.check(is_amount, False, [True, False])

    def test_parts_and_floats_are_no_whole_numbers(self):
        self.check(is_day, False, [0.0, 1.0, 1.5, 9999.0])
        self.check(is_amount, False, [1.0, 1.5, 1000000.0])

    def test_other_kinds(self):
        for thing in odd_things() + ["1", "7", "0007", "10", "oats", [7], (7,), {7: 7}, {7}, b"7"]:
            with self.subTest(thing=shown(thing)):
                self.assertIs(is_day(thing), False)
                self.assertIs(is_amount(thing), False)


class NamesOfBins(unittest.TestCase):
    def refuse_name(self, things):
        for thing in things:
            with self.subTest(thing=shown(thing)), self.assertRaises(NoName):
                bin_of(thing)

    def refuse_bin(self, things):
        for thing in things:
            with self.subTest(thing=shown(thing)), self.assertRaises(NoBin):
                bin_name(thing)

    def test_the_names_that_the_document_tells(self):
        self.assertEqual(bin_name((1, 7)), "B07")
        self.assertEqual(bin_of("B07"), (1, 7))
        self.assertEqual(bin_name((0, 1)), "A01")
        self.assertEqual(bin_name((25, 99)), "Z99")
        self.assertEqual(bin_of("A10"), (0, 10))
        self.assertEqual(bin_of("Z09"), (25, 9))

    def test_all_pairs_there_and_back(self):
        names = {}
        for aisle, letter in enumerate("ABCDEFGHIJKLMNOPQRSTUVWXYZ"):
            for place in range(1, 100):
                name = bin_name((aisle, place))
                self.assertIs(type(name), str)
                self.assertEqual(name, "%s%02d" % (letter, place))
                pair = bin_of(name)
                self.assertIs(type(pair), tuple)
                self.assertEqual([type(number) for number in pair], [int, int])
                self.assertEqual(pair, (aisle, place))
                names[name] = True
        self.assertEqual(len(names), 26 * 99)

    def test_arguments_go_by_their_names(self):
        self.assertEqual(bin_name(spot=(2, 30)), "C30")
        self.assertEqual(bin_of(text="C30"), (2, 30))
        self.assertEqual([is_ware(thing="a"), is_day(thing=0), is_amount(thing=1)], [True, True, True])

    def test_places_and_aisles_beyond_have_no_name(self):
        for aisle in range(26):
            self.refuse_bin([(aisle, 0), (aisle, 100), (aisle, -1), (aisle, 101), (aisle, 1000)])
        for place in range(1, 100):
            self.refuse_bin([(-1, place), (26, place), (27, place), (-26, place)])
        self.refuse_bin([(-1, 0), (26, 100), (0, -99), (10 ** 30, 1), (0, 10 ** 30), (10 ** 5000, 10 ** 5000)])

    def test_truths_in_a_pair_have_no_name(self):
        self.refuse_bin([(True, 7), (False, 7), (1, True), (True, True), (False, True), (1, False)])

    def test_what_is_no_pair_of_whole_numbers_has_no_name(self):
        self.refuse_bin([[1, 7], [0, 1], (1,), (1, 7, 1), (), ("1", "7"), (1, "7"), ("B", 7), (1.0, 7), (1, 7.0)])
        self.refuse_bin([((1, 7),), ([1], [7]), (None, 7), (1, None), {1: 7}, {1: 1, 7: 7}, "B07", "B7", "ab", 7, 107])
        self.refuse_bin(odd_things())

    def test_00_is_no_place(self):
        self.refuse_name([letter + "00" for letter in "ABCDEFGHIJKLMNOPQRSTUVWXYZ"])

    def test_small_letters_are_none_of_a_name(self):
        self.refuse_name([letter + "07" for letter in "abcdefghijklmnopqrstuvwxyz"])

    def test_letters_beyond_a_to_z(self):
        self.refuse_name(["@07", "[07", "107", "007", "-07", "\u00c407", "\u041007", "\uff2107", "\u039107", "\U0001d40007"])

    def test_figures_beyond_0_to_9(self):
        self.refuse_name(["B/7", "B:7", "B0/", "B0:", "BA7", "B0A", "BBB", "Boo", "B-7", "B+7", "B_7", "B0_", "B.7"])
        self.refuse_name(["B\u0660\u0667", "B0\u0667", "B\u06607", "B\uff10\uff17", "B0\u00b2", "B\u00b27", "B0\u2460"])

    def test_blanks_and_line_ends(self):
        self.refuse_name([" B07", "B07 ", "B 07", "B0 7", " 07", "B 7", "B7 ", "   ", "B07\n", "\nB07", "B7\n", "B\n7"])
        self.refuse_name(["\n07", "B07\r", "B\t7", "B07\0"])

    def test_too_short_and_too_long(self):
        self.refuse_name(["", "B", "B7", "07", "B0", "B007", "B070", "BB07", "B100", "B" * 1000, "B07B07"])

    def test_the_figures_ahead_of_the_letter(self):
        self.refuse_name(["07B", "0B7"])

    def test_no_texts_at_all(self):
        self.refuse_name([7, 107, -7, ["B07"], ["B", "0", "7"], ("B", "0", "7"), ("B", "07"), (1, 7), b"B07", {"B07": 1}])
        self.refuse_name(odd_things())


if __name__ == "__main__":
    unittest.main()
