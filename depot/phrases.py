"""Rows of text: their words, and the things that the words tell."""

from depot.errors import NoRow
from depot.names import FIGURES, bin_of, is_name

MOST_FIGURES = 7

# What stands behind a row's first word, in the order in which the store's methods take it.
FORMS = {
    "come": ("ware", "number", "bin", "number"),
    "go": ("number", "bin", "number"),
    "move": ("number", "bin", "bin", "number"),
    "count": ("number", "bin", "number"),
    "day": (),
    "promise": ("ware", "number", "number"),
    "drop": ("number",),
    "free": ("ware", "number"),
    "keep": ("number", "rule"),
    "wave": ("rule",),
    "walk": ("rule",),
    "in": ("bin",),
    "of": ("ware",),
}


def words_in(text):
    # Not split by itself: that takes tabs and line ends for blanks, too.
    return [word for word in text.lower().split(" ") if word != ""]


def is_idle(thing):
    if not isinstance(thing, str):
        return False
    words = words_in(thing)
    return len(words) == 0 or words[0].startswith("#")


def is_number(word):
    # Not isdigit: that takes figures beyond 0 to 9, too.
    return 1 <= len(word) <= MOST_FIGURES and all([sign in FIGURES for sign in word])


def number_of(word):
    if not is_number(word):
        raise NoRow("1 to 7 figures are wanted where a number is")
    return int(word)


def spot_of(word):
    name = word.upper()
    # Ahead of bin_of, which would refuse with NoName: here it is the row that is none.
    if not is_name(name):
        raise NoRow("a bin's name is wanted where a bin is")
    return bin_of(name)


# Wares and rules stay words: whether they are any is the store's to tell.
def thing_of(kind, word):
    if kind == "number":
        return number_of(word)
    if kind == "bin":
        return spot_of(word)
    return word


# A rule stands last and may have several words, which are one text for the store.
def joined(form, words):
    last = len(form) - 1
    if "rule" in form and len(words) > len(form):
        return words[:last] + [" ".join(words[last:])]
    return words


def things_of(form, words):
    parts = joined(form, words)
    if len(parts) != len(form):
        raise NoRow("too few words or too many")
    return [thing_of(kind, word) for kind, word in zip(form, parts)]
