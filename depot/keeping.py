"""How a promise goes out: by a rule, and such that all others can still be kept."""

from depot.asks import rest
from depot.rules import in_turn


def stock_of(pieces):
    return [(due, amount) for spot, lot, amount, due, came in pieces]


# What a piece may give is bound by the rests that the others leave on each of their days on which it is good. What
# is still wanted needs no look of its own: for today the others leave at least that much, behind each row, too.
def kept_rows(pieces, others, wanted, rule):
    stock = stock_of(pieces)
    spare = dict([(day, rest(stock, others, day)) for day, amount in others])
    rows = []
    for spot, lot, lies, due, came in in_turn(pieces, rule):
        days = [day for day in spare if day <= due]
        grains = min([lies, wanted] + [spare[day] for day in days])
        if grains > 0:
            rows.append((spot, lot, grains))
            wanted -= grains
            for day in days:
                spare[day] -= grains
    return rows


def pieces_behind(pieces, rows):
    gone = dict([((spot, lot), amount) for spot, lot, amount in rows])
    left = []
    for spot, lot, amount, due, came in pieces:
        lies = amount - gone.get((spot, lot), 0)
        if lies > 0:
            left.append((spot, lot, lies, due, came))
    return left
