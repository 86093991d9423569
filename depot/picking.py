"""Picking: the pieces of a ware, and an amount picked from pieces by a rule."""

from depot.errors import TooLittle
from depot.needs import need_amount, need_day, need_ware
from depot.rules import in_turn


def pieces_of(house, ware, day):
    need_ware(ware)
    need_day(day)
    lots = house.lots()
    pieces = []
    # A house tells what lies by bins, then by lots; so the pieces are in this order, too.
    for spot, held in house.lying().items():
        for lot, amount in held.items():
            if lots[lot][0] == ware and lots[lot][1] >= day:
                pieces.append((spot, lot, amount, lots[lot][1], lots[lot][2]))
    return pieces


def picked(pieces, rule, amount):
    need_amount(amount)
    wanted = amount
    rows = []
    for spot, lot, lies, due, came in in_turn(pieces, rule):
        grains = min(lies, wanted)
        if grains > 0:
            rows.append((spot, lot, grains))
            wanted -= grains
    if wanted > 0:
        raise TooLittle("all the pieces together are too few")
    return rows
