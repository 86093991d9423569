"""Rules: which pieces come first."""

from depot.errors import NoRule

WORDS = ("due", "came", "amount", "aisle", "place", "lot")


# In the order of WORDS, so that a word's place there finds its number here.
def numbers_of(piece):
    return (piece[3], piece[4], piece[2], piece[0][0], piece[0][1], piece[1])


def bare(word):
    return word[1:] if word.startswith("-") else word


def words_of(text):
    if not isinstance(text, str):
        raise NoRule("a text is wanted")
    # Not split by itself: that takes any number of blanks, and tabs and line ends, too.
    words = text.split(" ")
    names = [bare(word) for word in words]
    for name in names:
        if name not in WORDS or names.count(name) > 1:
            raise NoRule("due, came, amount, aisle, place, lot are the words, each once, with one blank between")
    return words


def rule_of(text):
    parts = [(WORDS.index(bare(word)), word.startswith("-")) for word in words_of(text)]

    def tuple_of(piece):
        numbers = numbers_of(piece)
        return tuple([-numbers[where] if turned else numbers[where] for where, turned in parts])

    return tuple_of


def in_turn(pieces, rule):
    return sorted(pieces, key=lambda piece: (rule(piece), piece[0], piece[1]))
