import itertools
import random
import unittest

from helper import odd_things, shown

from depot.errors import NoRule
from depot.rules import in_turn, rule_of

WORDS = ["due", "came", "amount", "aisle", "place", "lot"]

# A piece is (bin, lot, amount, due, came); each number of this one is another.
PIECE = ((3, 7), 41, 500, 60, 20)
NUMBERS = {"due": 60, "came": 20, "amount": 500, "aisle": 3, "place": 7, "lot": 41}


def told(text):
    """The tuple that a right text makes of PIECE, reckoned by itself."""
    return tuple(-NUMBERS[word[1:]] if word[0] == "-" else NUMBERS[word] for word in text.split(" "))


class Rules(unittest.TestCase):
    def check(self, text):
        answer = rule_of(text)(PIECE)
        self.assertIs(type(answer), tuple)
        self.assertEqual({type(number) for number in answer}, {int})
        self.assertEqual(answer, told(text), text)

    def refused(self, text):
        with self.assertRaises(NoRule, msg=shown(text)):
            rule_of(text)

    def test_each_word_alone(self):
        self.assertEqual(rule_of("due")(PIECE), (60,))
        self.assertEqual(rule_of("came")(PIECE), (20,))
        self.assertEqual(rule_of("amount")(PIECE), (500,))
        self.assertEqual(rule_of("aisle")(PIECE), (3,))
        self.assertEqual(rule_of("place")(PIECE), (7,))
        self.assertEqual(rule_of("lot")(PIECE), (41,))
        self.assertEqual(rule_of(text="-due")(PIECE), (-60,))
        for word in WORDS:
            self.check(word)
            self.check("-" + word)

    def test_all_six(self):
        self.assertEqual(rule_of("due came amount aisle place lot")(PIECE), (60, 20, 500, 3, 7, 41))
        self.assertEqual(rule_of("-lot place -aisle amount -came due")(PIECE), (-41, 7, -3, 500, -20, 60))
        for order in itertools.permutations(WORDS):
            self.check(" ".join(order))
        for signs in itertools.product(["", "-"], repeat=6):
            self.check(" ".join(sign + word for sign, word in zip(signs, WORDS)))

    def test_some_of_the_words(self):
        for length in (2, 3, 4, 5):
            for words in itertools.permutations(WORDS, length):
                self.check(" ".join(words))
                self.check(" ".join(["-" + words[0]] + list(words[1:])))
                self.check(" ".join(list(words[:-1]) + ["-" + words[-1]]))

    def test_noughts_and_great_numbers(self):
        piece = ((0, 1), 0, 10 ** 6, 9999, 0)
        self.assertEqual(rule_of("-aisle -lot -came")(piece), (0, 0, 0))
        self.assertEqual(rule_of("-amount due -place")(piece), (-10 ** 6, 9999, -1))

    def test_the_empty_text_and_blanks(self):
        for text in ["", " ", "  ", " due", "due ", " due ", "due  came", "due came ", " due came", "due   lot", "\n"]:
            self.refused(text)

    def test_a_word_twice(self):
        for word in WORDS:
            for one, other in itertools.product([word, "-" + word], repeat=2):
                self.refused(one + " " + other)
                for between in WORDS:
                    self.refused(one + " " + between + " " + other)

    def test_seven_words(self):
        for word in WORDS + ["-due", "-lot", "far", ""]:
            self.refused(" ".join(WORDS + [word]))
            self.refused(" ".join([word] + WORDS))

    def test_great_letters(self):
        for word in WORDS:
            self.refused(word.upper())
            self.refused(word.capitalize())
            self.refused("-" + word.upper())
            self.refused(word[:-1] + word[-1].upper())

    def test_signs_that_stand_wrong(self):
        for text in ["-", "- due", "due -", "--due", "---due", "due-", "-due-", "+due", "due -- lot", "- -", "-due --lot"]:
            self.refused(text)
        self.refused("\u2212due")

    def test_other_signs_between(self):
        for sign in ["\t", "\n", "\r", "\r\n", "\v", "\f", "\0", "\u00a0", "\u2003", ",", ", ", ";", "_", "/"]:
            self.refused("due" + sign + "came")
            self.refused("due" + sign)
            self.refused(sign + "due")
            self.refused("due " + sign + " came")
            self.refused("due " + sign + "came")
            self.refused("due" + sign + " came")
        self.refused("duecame")
        self.refused("due-came")

    def test_words_that_are_none(self):
        for word in ["d", "du", "dues", "ware", "day", "bin", "spot", "gap", "age", "amounts", "0", "1", "due1", "d ue"]:
            self.refused(word)
            self.refused("-" + word)
            self.refused("due " + word)
            self.refused(word + " due")
        self.refused("du\u00eb")
        self.refused("\u217eue")
        self.refused("due " * 100000)

    def test_what_is_no_text(self):
        for thing in [["due"], ("due",), {"due": 1}, b"due", 0, 1, ["due", "came"], rule_of("due")] + odd_things():
            self.refused(thing)

    def test_rules_asked_by_turns(self):
        texts = ["due", "-due", "lot place", "-amount came", "aisle -place lot", "due"]
        rules = [rule_of(text) for text in texts]
        for turn in range(3):
            for text, rule in zip(texts, rules):
                self.assertEqual(rule(PIECE), told(text))
        other = ((0, 1), 2, 3, 4, 5)
        self.assertEqual([rule(other) for rule in rules], [(4,), (-4,), (2, 1), (-3, 5), (0, -1, 2), (4,)])
        self.refused("due due")
        self.assertEqual([rule(PIECE) for rule in rules], [told(text) for text in texts])


class Turns(unittest.TestCase):
    PIECES = [
        ((1, 2), 4, 10, 7, 0), ((0, 3), 1, 20, 5, 1), ((0, 3), 0, 10, 7, 0), ((0, 12), 4, 30, 7, 0),
        ((10, 1), 1, 10, 5, 1), ((2, 1), 12, 10, 5, 1), ((2, 1), 3, 5, 9, 2),
    ]

    def turn(self, text):
        return [(piece[0], piece[1]) for piece in in_turn(self.PIECES, rule_of(text))]

    def test_lesser_tuples_first_then_by_bin_then_by_lot(self):
        self.assertEqual(self.turn("due"), [
            ((0, 3), 1), ((2, 1), 12), ((10, 1), 1), ((0, 3), 0), ((0, 12), 4), ((1, 2), 4), ((2, 1), 3),
        ])
        self.assertEqual(self.turn("-due"), [
            ((2, 1), 3), ((0, 3), 0), ((0, 12), 4), ((1, 2), 4), ((0, 3), 1), ((2, 1), 12), ((10, 1), 1),
        ])
        self.assertEqual(self.turn("due -amount"), [
            ((0, 3), 1), ((2, 1), 12), ((10, 1), 1), ((0, 12), 4), ((0, 3), 0), ((1, 2), 4), ((2, 1), 3),
        ])
        self.assertEqual(self.turn("aisle"), [
            ((0, 3), 0), ((0, 3), 1), ((0, 12), 4), ((1, 2), 4), ((2, 1), 3), ((2, 1), 12), ((10, 1), 1),
        ])
        self.assertEqual(self.turn("-lot amount"), [
            ((2, 1), 12), ((1, 2), 4), ((0, 12), 4), ((2, 1), 3), ((10, 1), 1), ((0, 3), 1), ((0, 3), 0),
        ])

    def test_like_tuples_by_bin_then_by_lot(self):
        pieces = [((aisle, place), lot, 5, 6, 7) for aisle in (0, 2, 10) for place in (1, 2, 10) for lot in (0, 2, 10)]
        for seed in range(10):
            mixed = list(pieces)
            random.Random(seed).shuffle(mixed)
            for text in ("due", "-due", "came amount", "-amount -came -due"):
                self.assertEqual(in_turn(mixed, rule_of(text)), pieces)
            self.assertEqual(in_turn(mixed, rule_of("-aisle")), pieces[18:] + pieces[9:18] + pieces[:9])

    def test_against_a_plain_choice_of_the_first(self):
        for seed in range(30):
            chance = random.Random(seed)
            spots = [(aisle, place) for aisle in range(3) for place in range(1, 4)]
            days = [(chance.randrange(3), chance.randrange(3)) for lot in range(4)]
            pieces = [(spot, lot, chance.randrange(1, 4)) + days[lot] for spot in spots for lot in range(4)]
            pieces = chance.sample(pieces, 20)
            words = chance.sample(WORDS, chance.randrange(1, 7))
            rule = rule_of(" ".join(chance.choice(["", "-"]) + word for word in words))
            left, right = list(pieces), []
            while left:
                first = left[0]
                for piece in left:
                    if (rule(piece), piece[0], piece[1]) < (rule(first), first[0], first[1]):
                        first = piece
                right.append(first)
                left.remove(first)
            self.assertEqual(in_turn(pieces, rule), right)

    def test_none_and_one(self):
        answer = in_turn([], rule_of("due"))
        self.assertEqual(answer, [])
        self.assertIs(type(answer), list)
        self.assertEqual(in_turn(pieces=[PIECE], rule=rule_of("lot")), [PIECE])

    def test_the_list_handed_in_stays(self):
        pieces = list(self.PIECES)
        answer = in_turn(pieces, rule_of("due"))
        self.assertIsNot(answer, pieces)
        self.assertEqual(pieces, self.PIECES)
        empty = []
        self.assertIsNot(in_turn(empty, rule_of("due")), empty)

    def test_a_told_list_is_the_askers_own(self):
        pieces, rule = list(self.PIECES), rule_of("due")
        right = in_turn(pieces, rule)
        answer = in_turn(pieces, rule)
        answer.reverse()
        answer.pop()
        answer.append("changed")
        self.assertEqual(pieces, self.PIECES)
        self.assertEqual(in_turn(pieces, rule), right)
        kept = list(right)
        pieces.clear()
        self.assertEqual(right, kept)


if __name__ == "__main__":
    unittest.main()
