"""Wares, days and amounts, and the names of bins."""

from depot.errors import NoBin, NoName

LETTERS = "ABCDEFGHIJKLMNOPQRSTUVWXYZ"
FIGURES = "0123456789"
MOST_AISLES = 26
MOST_PLACES = 99
LONGEST_WARE = 12
LAST_DAY = 9999
MOST_AMOUNT = 1000000


def is_whole(thing, least, most):
    # Python counts True and False among its whole numbers; here they are none.
    return isinstance(thing, int) and not isinstance(thing, bool) and least <= thing <= most


def is_pair(thing, aisles, first, last):
    if not isinstance(thing, tuple) or len(thing) != 2:
        return False
    return is_whole(thing[0], 0, aisles - 1) and is_whole(thing[1], first, last)


def is_ware(thing):
    if not isinstance(thing, str) or not 1 <= len(thing) <= LONGEST_WARE:
        return False
    # Not islower: that takes letters beyond a to z, too.
    return all(["a" <= sign <= "z" for sign in thing])


def is_day(thing):
    return is_whole(thing, 0, LAST_DAY)


def is_amount(thing):
    return is_whole(thing, 1, MOST_AMOUNT)


def is_name(thing):
    if not isinstance(thing, str) or len(thing) != 3:
        return False
    # Not isdigit: that takes figures beyond 0 to 9, too.
    return thing[0] in LETTERS and thing[1] in FIGURES and thing[2] in FIGURES and thing[1:] != "00"


def bin_name(spot):
    # The refusals' words don't show the thing: a very great number can't be written out.
    if not is_pair(spot, MOST_AISLES, 1, MOST_PLACES):
        raise NoBin("a pair of an aisle from 0 to 25 and a place from 1 to 99 is wanted")
    return LETTERS[spot[0]] + FIGURES[spot[1] // 10] + FIGURES[spot[1] % 10]


def bin_of(text):
    if not is_name(text):
        raise NoName("a letter A to Z and two figures, not 00, are wanted")
    return (LETTERS.index(text[0]), 10 * FIGURES.index(text[1]) + FIGURES.index(text[2]))
