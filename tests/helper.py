"""What several tests draw on."""

import re
from decimal import Decimal
from fractions import Fraction

from depot.errors import NoAmount, NoBin, NoDay, NoLot, NoRoom, NoWare, TooLittle


class Plain:
    pass


def odd_things():
    """Things of many kinds; none of them is what any function of the package asks for."""
    return [
        None, True, False, 0.0, 1.0, 1.5, float("nan"), float("inf"), 1j, Decimal(1), Fraction(1),
        -10 ** 5000, 10 ** 5000, "", " ", "\n", "0", "-1", "A", "?", b"", b"abc", b"A07",
        [], [1], [0, 1], [1, 1], [2, 3, 1], (), (1,), (None, None), (None, 1), (0, None), (0.0, 1), (0, 1.0),
        ("0", "1"), ("A", "07"), (0, "1"), ((0, 1),), ((0,), (1,)), ([0], [1]), (0, 1, 1, 1), (True, True), (False, True),
        (10 ** 5000, 1), (0, 10 ** 5000), (-10 ** 5000, -10 ** 5000),
        {}, {0: 1}, {0: 0, 1: 1}, set(), {0, 1}, frozenset((0, 1)), range(2), iter((0, 1)),
        Plain, Plain(), object(), len, lambda: 1, Ellipsis, NotImplemented,
    ]


def shown(thing):
    """Python won't write very great numbers: of a thing with one in it the kind alone is shown."""
    try:
        return ascii(thing)
    except ValueError:
        return type(thing).__name__


def wrong_plans():
    wrong = [
        (0, 5, 4), (27, 5, 4), (-1, 5, 4), (28, 5, 4), (-3, 5, 4), (10 ** 30, 5, 4), (10 ** 5000, 5, 4),
        (3, 0, 4), (3, 100, 4), (3, -1, 4), (3, 101, 4), (3, -5, 4), (3, 10 ** 30, 4), (3, 10 ** 5000, 4),
        (3, 5, 0), (3, 5, 21), (3, 5, -1), (3, 5, 22), (3, 5, -4), (3, 5, 10 ** 30), (3, 5, 10 ** 5000),
        (0, 0, 0), (27, 100, 21),
        (True, 5, 4), (3, True, 4), (3, 5, True), (False, 5, 4), (3, False, 4), (3, 5, False), (True, True, True),
        (3.0, 5, 4), (3, 5.0, 4), (3, 5, 4.0), ("3", 5, 4), (3, "5", 4), (3, 5, "4"), (None, 5, 4), (3, None, 4),
        (3, 5, None), ([3], [5], [4]), ((3, 5, 4),),
        (3,), (3, 5), (3, 5, 4, 1), (3, 5, 4, 4, 4), [3, 5, 4], [1, 1, 1], "354", "abc", b"354", 354, 3,
        {3: 3, 5: 5, 4: 4}, {3, 5, 4}, range(1, 4),
    ]
    return wrong + odd_things()


# Few of each, for tests that try every one of them beside every other.
WRONG_LOTS = [-1, 1000, True, False, "0", None, [0]]
WRONG_AMOUNTS = [0, -1, 10 ** 6 + 1, True, "1", None]
WRONG_DAYS = [-1, 10000, True, "3", None]
WRONG_WARES = ["", "Oats", "oats ", "abcdefghijklm", None, 7]


def wrong_bins(plan):
    """A bin that the plan lacks, ends of an aisle, a list of two, a truth in a pair, and other kinds."""
    return [(plan[0], 1), (-1, 1), (0, 0), (0, plan[1] + 1), [0, 1], (False, 1), (0, True), (0,), (0, 1, 1), "A01", None]


def ladder(slots):
    """Every way to hand in one wrong thing or more: pairs of the things and the refusal of the first wrong one.

    A slot is a triple of a right thing, wrong ones, and the refusal of these.
    """
    ways = [([], None)]
    for right, wrong, refusal in slots:
        ways = [
            (things + [thing], due or (refusal if number else None))
            for things, due in ways
            for number, thing in enumerate([right] + wrong)
        ]
    return [(things, due) for things, due in ways if due]


class Reckoning:
    """A plain reckoning by lots and bins, beside which a house is held. It tells what a house must refuse, too."""

    def __init__(self, plan, room):
        self.plan = plan
        self.room = room
        self.day = 0
        self.lots = []
        self.rows = []
        self.lies = {}

    def there(self, lot, spot):
        return self.lies.get((spot, lot), 0)

    def filled(self, spot):
        return sum(amount for (where, lot), amount in self.lies.items() if where == spot)

    def add(self, lot, spot, more):
        self.lies[(spot, lot)] = self.there(lot, spot) + more

    def lying(self):
        told = {}
        for (spot, lot), amount in sorted(self.lies.items()):
            if amount:
                told.setdefault(spot, {})[lot] = amount
        return told

    def left(self, lot):
        return sum(amount for (spot, other), amount in self.lies.items() if other == lot)

    def total(self, ware, day):
        return sum(
            self.left(lot) for lot, (other, due, came) in enumerate(self.lots) if other == ware and due >= day
        )

    def whole(self, thing, least, most):
        return type(thing) is int and least <= thing <= most

    def lot(self, thing):
        return None if self.whole(thing, 0, len(self.lots) - 1) else NoLot

    def bin(self, thing):
        right = type(thing) is tuple and len(thing) == 2
        right = right and self.whole(thing[0], 0, self.plan[0] - 1) and self.whole(thing[1], 1, self.plan[1])
        return None if right else NoBin

    def amount(self, thing, least=1):
        return None if self.whole(thing, least, 10 ** 6) else NoAmount

    def enough(self, lot, spot, amount):
        return None if self.there(lot, spot) >= amount else TooLittle

    def fits(self, spot, more):
        return None if self.filled(spot) + more <= self.room else NoRoom

    def come_refusal(self, ware, due, spot, amount):
        if type(ware) is not str or re.fullmatch("[a-z]{1,12}", ware) is None:
            return NoWare
        if not self.whole(due, 0, 9999):
            return NoDay
        refusal = self.bin(spot) or self.amount(amount)
        if refusal:
            return refusal
        if due < self.day:
            return NoDay
        return NoLot if len(self.lots) >= 1000 else self.fits(spot, amount)

    def go_refusal(self, lot, spot, amount):
        return self.lot(lot) or self.bin(spot) or self.amount(amount) or self.enough(lot, spot, amount)

    def move_refusal(self, lot, one, other, amount):
        refusal = self.lot(lot) or self.bin(one) or self.bin(other) or self.amount(amount)
        refusal = refusal or self.enough(lot, one, amount)
        return refusal or (None if one == other else self.fits(other, amount))

    def count_refusal(self, lot, spot, amount):
        refusal = self.lot(lot) or self.bin(spot) or self.amount(amount, 0)
        return refusal or self.fits(spot, amount - self.there(lot, spot))

    def next_day_refusal(self):
        return NoDay if self.day == 9999 else None

    def refusal(self, deed, things):
        return getattr(self, deed + "_refusal")(*things)

    def come(self, ware, due, spot, amount):
        lot = len(self.lots)
        self.lots.append((ware, due, self.day))
        self.add(lot, spot, amount)
        self.rows.append(("come", lot, ware, due, spot, amount))
        return lot

    def go(self, lot, spot, amount):
        self.add(lot, spot, -amount)
        self.rows.append(("go", lot, spot, amount))

    def move(self, lot, one, other, amount):
        self.add(lot, one, -amount)
        self.add(lot, other, amount)
        self.rows.append(("move", lot, one, other, amount))

    def count(self, lot, spot, amount):
        before = self.there(lot, spot)
        self.add(lot, spot, amount - before)
        self.rows.append(("count", lot, spot, before, amount))
        return amount - before

    def next_day(self):
        self.day += 1
        self.rows.append(("day", self.day))
        return self.day

    def does(self, row):
        """Does the deed that a row tells; False where it can't be done, or makes another row than this."""
        deed, things = {
            "come": ("come", row[2:]), "go": ("go", row[1:]), "move": ("move", row[1:]),
            "count": ("count", row[1:3] + row[4:]), "day": ("next_day", ()),
        }[row[0]]
        if self.refusal(deed, things):
            return False
        getattr(self, deed)(*things)
        return self.rows[-1] == row


def some_deed(reckoning, chance, wrong):
    """A deed and the things handed in with it; in one deed of wrong many, one thing is none."""
    plan = reckoning.plan
    spots = [(aisle, place) for aisle in range(plan[0]) for place in range(1, plan[1] + 1)]
    lot = chance.randrange(len(reckoning.lots) + 1)
    one, other = chance.choice(spots), chance.choice(spots)
    amount = chance.choice([1, 2, 3, reckoning.room // 2 + 1, reckoning.there(lot, one) or 1, reckoning.room])
    deed = chance.choice(["come", "go", "go", "move", "move", "move", "count", "count", "next_day"])
    things, slots = {
        "come": ([chance.choice(["oats", "rye"]), reckoning.day + chance.randrange(-1, 4), one, amount], "wdba"),
        "go": ([lot, one, amount], "lba"),
        "move": ([lot, one, other, amount], "lbba"),
        "count": ([lot, one, chance.choice([0, amount, reckoning.there(lot, one)])], "lba"),
        "next_day": ([], ""),
    }[deed]
    if slots and chance.randrange(wrong) == 0:
        where = chance.randrange(len(slots))
        wrongs = {"w": WRONG_WARES, "d": WRONG_DAYS, "b": wrong_bins(plan), "l": WRONG_LOTS, "a": WRONG_AMOUNTS}
        things[where] = chance.choice(wrongs[slots[where]])
    return deed, things
