"""Texts that the desk answers: the refusals' words, and rows written out."""

from depot.errors import (
    Broken, NoAmount, NoBin, NoDay, NoLot, NoName, NoPlan, NoPromise, NoRoom, NoRow, NoRule, NotToday, NoWare,
    StillOpen, TooLittle,
)
from depot.names import bin_name


def word_of(error):
    looks = [
        (isinstance(error, NoPlan), "plan"),
        (isinstance(error, NoName), "name"),
        (isinstance(error, NoWare), "ware"),
        (isinstance(error, NoDay), "day"),
        (isinstance(error, NoBin), "bin"),
        (isinstance(error, NoLot), "lot"),
        (isinstance(error, NoAmount), "amount"),
        (isinstance(error, NoRoom), "room"),
        (isinstance(error, TooLittle), "little"),
        (isinstance(error, NoRule), "rule"),
        (isinstance(error, NoPromise), "promise"),
        (isinstance(error, Broken), "broken"),
        (isinstance(error, NotToday), "today"),
        (isinstance(error, StillOpen), "open"),
        (isinstance(error, NoRow), "row"),
    ]
    words = [word for fits, word in looks if fits]
    return words[0]


# In parts of 60 figures: str by itself writes no number of more than some thousand figures.
def number_text(number):
    step = 10 ** 60
    left = abs(number)
    parts = []
    while left >= step:
        parts.append(str(left % step).zfill(60))
        left = left // step
    parts.append(str(left))
    if number < 0:
        parts.append("-")
    return "".join(reversed(parts))


def thing_text(thing):
    if isinstance(thing, tuple):
        return bin_name(thing)
    if isinstance(thing, int):
        return number_text(thing)
    return thing


def row_text(row):
    return " ".join([thing_text(thing) for thing in row])


def rows_text(rows):
    if len(rows) == 0:
        return "none"
    return "; ".join([row_text(row) for row in rows])
