"""The looks at what is handed in that several modules take: each one refuses what is none."""

from depot.errors import NoAmount, NoBin, NoDay, NoLot, NoWare
from depot.names import is_amount, is_day, is_ware, is_whole
from depot.plans import is_bin


def need_ware(thing):
    if not is_ware(thing):
        raise NoWare("a text of 1 to 12 letters a to z is wanted")


def need_day(thing):
    if not is_day(thing):
        raise NoDay("a whole number from 0 to 9999 is wanted")


def need_lot(thing, lots):
    if not is_whole(thing, 0, lots - 1):
        raise NoLot("there is no lot of that number")


def need_bin(plan, thing):
    if not is_bin(plan, thing):
        raise NoBin("a bin of the plan is wanted")


def need_amount(thing):
    if not is_amount(thing):
        raise NoAmount("a whole number from 1 to 10 ** 6 is wanted")
