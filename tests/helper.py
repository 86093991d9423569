"""What several tests draw on."""

import copy
import functools
import itertools
import re
from decimal import Decimal
from fractions import Fraction

from depot.errors import (
    Broken, NoAmount, NoBin, NoDay, NoLot, NoName, NoPlan, NoPromise, NoRoom, NoRow, NoRule, NotToday, NoWare,
    StillOpen, TooLittle,
)


class Plain:
    pass


def odd_things():
    """Things of many kinds; none of them is what any function of the package asks for."""
    return [
        None, True, False, 0.0, 1.0, 1.5, float("nan"), float("inf"), 1j, Decimal(1), Fraction(1),
        -10 ** 5000, 10 ** 5000, "", " ", "\n", "0", "-1", "A", "?", b"", b"abc", b"A07",
        [], [1], [0, 1], [1, 1], [2, 3, 1], (), (1,), (None, None), (None, 1), (0, None), (0.0, 1), (0, 1.0),
        ("0", "1"), ("A", "07"), (0, "1"), ((0, 1),), ((0,), (1,)), ([0], [1]), (0, 1, 1, 1), (True, True), (False, True),
        (10 ** 5000, 1), (0, 10 ** 5000), (-10 ** 5000, -10 ** 5000),
        {}, {0: 1}, {0: 0, 1: 1}, set(), {0, 1}, frozenset((0, 1)), range(2), iter((0, 1)),
        Plain, Plain(), object(), len, lambda: 1, Ellipsis, NotImplemented,
    ]


def shown(thing):
    """Python won't write very great numbers: of a thing with one in it the kind alone is shown."""
    try:
        return ascii(thing)
    except ValueError:
        return type(thing).__name__


def wrong_plans():
    wrong = [
        (0, 5, 4), (27, 5, 4), (-1, 5, 4), (28, 5, 4), (-3, 5, 4), (10 ** 30, 5, 4), (10 ** 5000, 5, 4),
        (3, 0, 4), (3, 100, 4), (3, -1, 4), (3, 101, 4), (3, -5, 4), (3, 10 ** 30, 4), (3, 10 ** 5000, 4),
        (3, 5, 0), (3, 5, 21), (3, 5, -1), (3, 5, 22), (3, 5, -4), (3, 5, 10 ** 30), (3, 5, 10 ** 5000),
        (0, 0, 0), (27, 100, 21),
        (True, 5, 4), (3, True, 4), (3, 5, True), (False, 5, 4), (3, False, 4), (3, 5, False), (True, True, True),
        (3.0, 5, 4), (3, 5.0, 4), (3, 5, 4.0), ("3", 5, 4), (3, "5", 4), (3, 5, "4"), (None, 5, 4), (3, None, 4),
        (3, 5, None), ([3], [5], [4]), ((3, 5, 4),),
        (3,), (3, 5), (3, 5, 4, 1), (3, 5, 4, 4, 4), [3, 5, 4], [1, 1, 1], "354", "abc", b"354", 354, 3,
        {3: 3, 5: 5, 4: 4}, {3, 5, 4}, range(1, 4),
    ]
    return wrong + odd_things()


# Few of each, for tests that try every one of them beside every other.
WRONG_LOTS = [-1, 1000, True, False, "0", None, [0]]
WRONG_AMOUNTS = [0, -1, 10 ** 6 + 1, True, "1", None]
WRONG_DAYS = [-1, 10000, True, "3", None]
WRONG_WARES = ["", "Oats", "oats ", "abcdefghijklm", None, 7]
WRONG_NUMBERS = [-1, 1000, True, False, "0", None, [0]]
WRONG_RULES = ["", " due", "due ", "due  lot", "due due", "lot -lot", "Due", "ware", "--due", None, 7, ["due"]]
RULE = "-?(due|came|amount|aisle|place|lot)( -?(due|came|amount|aisle|place|lot))*"
RULES = ["due", "-due", "amount", "-amount lot", "came -aisle", "place", "-place -lot", "lot due", "-came amount due"]


def wrong_bins(plan):
    """A bin that the plan lacks, ends of an aisle, a list of two, a truth in a pair, and other kinds."""
    return [(plan[0], 1), (-1, 1), (0, 0), (0, plan[1] + 1), [0, 1], (False, 1), (0, True), (0,), (0, 1, 1), "A01", None]


def ladder(slots):
    """Every way to hand in one wrong thing or more: pairs of the things and the refusal of the first wrong one.

    A slot is a triple of a right thing, wrong ones, and the refusal of these.
    """
    ways = [([], None)]
    for right, wrong, refusal in slots:
        ways = [
            (things + [thing], due or (refusal if number else None))
            for things, due in ways
            for number, thing in enumerate([right] + wrong)
        ]
    return [(things, due) for things, due in ways if due]


def can_keep(stock, asks):
    """Whether asks can be kept, grain by grain: the later a day, the later due a grain it is given."""
    dues = sorted((due for due, amount in stock for grain in range(amount)), reverse=True)
    days = sorted((day for day, amount in asks for grain in range(amount)), reverse=True)
    return len(days) <= len(dues) and all(day <= due for day, due in zip(days, dues))


def step_by_step(plan, spots):
    """Every spot that a walk comes to, one behind the other; each end of an aisle that it goes by among them."""
    path = [spots[0]]
    for one, other in zip(spots, spots[1:]):
        (aisle, place), (goal, last) = one, other
        while (aisle, place) != (goal, last):
            if aisle == goal:
                place += 1 if last > place else -1
            else:
                aisle += 1 if goal > aisle else -1
            path.append((aisle, place))
    return path


def plain_length(plan, spots):
    path = step_by_step(plan, spots)
    return sum(1 if one[0] == other[0] else plan[2] for one, other in zip(path, path[1:]))


def plain_stops(plan, spots, bins):
    first = []
    for spot in step_by_step(plan, spots):
        if spot in bins and spot not in first:
            first.append(spot)
    return first


def ways(plan, bins):
    """All walks by the rule, each choice in each aisle tried one by one."""
    last = max((aisle for aisle, place in bins), default=None)
    if last is None:
        return [[(0, 0)]]
    found = []
    for through in itertools.product([False, True], repeat=last + 1):
        if sum(through) % 2:
            continue
        end, back, spots = 0, plan[1] + 1, []
        for aisle in range(last + 1):
            places = [place for other, place in bins if other == aisle]
            spots.append((aisle, end))
            if through[aisle]:
                end = back - end
                spots.append((aisle, end))
            elif places:
                spots += [(aisle, max(places) if end == 0 else min(places)), (aisle, end)]
        found.append(spots + ([(0, 0)] if last else []))
    return found


def least(plan, bins):
    """The least length of a walk by the rule, for plans of which not all ways can be tried."""
    last, back = max(aisle for aisle, place in bins), plan[1] + 1
    places = {aisle: [place for other, place in bins if other == aisle] for aisle in range(last + 1)}

    @functools.lru_cache(None)
    def onward(aisle, at_front):
        if aisle > last:
            return plan[2] * last if at_front else 10 ** 9
        reach = max([place if at_front else back - place for place in places[aisle]], default=0)
        step = plan[2] if aisle < last else 0
        return step + min(2 * reach + onward(aisle + 1, at_front), back + onward(aisle + 1, not at_front))

    return onward(0, True)


class Reckoning:
    """A plain reckoning by lots and bins, beside which a house is held. It tells what a house must refuse, too."""

    def __init__(self, plan, room):
        self.plan = plan
        self.room = room
        self.day = 0
        self.lots = []
        self.rows = []
        self.lies = {}

    def there(self, lot, spot):
        return self.lies.get((spot, lot), 0)

    def filled(self, spot):
        return sum(amount for (where, lot), amount in self.lies.items() if where == spot)

    def add(self, lot, spot, more):
        self.lies[(spot, lot)] = self.there(lot, spot) + more

    def lying(self):
        told = {}
        for (spot, lot), amount in sorted(self.lies.items()):
            if amount:
                told.setdefault(spot, {})[lot] = amount
        return told

    def left(self, lot):
        return sum(amount for (spot, other), amount in self.lies.items() if other == lot)

    def total(self, ware, day):
        return sum(
            self.left(lot) for lot, (other, due, came) in enumerate(self.lots) if other == ware and due >= day
        )

    def pieces(self, ware, day):
        return [
            (spot, lot, amount) + self.lots[lot][1:] for (spot, lot), amount in sorted(self.lies.items())
            if amount and self.lots[lot][0] == ware and self.lots[lot][1] >= day
        ]

    def whole(self, thing, least, most):
        return type(thing) is int and least <= thing <= most

    def ware(self, thing):
        return None if type(thing) is str and re.fullmatch("[a-z]{1,12}", thing) else NoWare

    def lot(self, thing):
        return None if self.whole(thing, 0, len(self.lots) - 1) else NoLot

    def bin(self, thing):
        right = type(thing) is tuple and len(thing) == 2
        right = right and self.whole(thing[0], 0, self.plan[0] - 1) and self.whole(thing[1], 1, self.plan[1])
        return None if right else NoBin

    def amount(self, thing, least=1):
        return None if self.whole(thing, least, 10 ** 6) else NoAmount

    def enough(self, lot, spot, amount):
        return None if self.there(lot, spot) >= amount else TooLittle

    def fits(self, spot, more):
        return None if self.filled(spot) + more <= self.room else NoRoom

    def come_refusal(self, ware, due, spot, amount):
        refusal = self.ware(ware) or (None if self.whole(due, 0, 9999) else NoDay)
        refusal = refusal or self.bin(spot) or self.amount(amount)
        if refusal:
            return refusal
        if due < self.day:
            return NoDay
        return NoLot if len(self.lots) >= 1000 else self.fits(spot, amount)

    def go_refusal(self, lot, spot, amount):
        return self.lot(lot) or self.bin(spot) or self.amount(amount) or self.enough(lot, spot, amount)

    def move_refusal(self, lot, one, other, amount):
        refusal = self.lot(lot) or self.bin(one) or self.bin(other) or self.amount(amount)
        refusal = refusal or self.enough(lot, one, amount)
        return refusal or (None if one == other else self.fits(other, amount))

    def count_refusal(self, lot, spot, amount):
        refusal = self.lot(lot) or self.bin(spot) or self.amount(amount, 0)
        return refusal or self.fits(spot, amount - self.there(lot, spot))

    def next_day_refusal(self):
        return NoDay if self.day == 9999 else None

    def refusal(self, deed, things):
        return getattr(self, deed + "_refusal")(*things)

    def come(self, ware, due, spot, amount):
        lot = len(self.lots)
        self.lots.append((ware, due, self.day))
        self.add(lot, spot, amount)
        self.rows.append(("come", lot, ware, due, spot, amount))
        return lot

    def go(self, lot, spot, amount):
        self.add(lot, spot, -amount)
        self.rows.append(("go", lot, spot, amount))

    def move(self, lot, one, other, amount):
        self.add(lot, one, -amount)
        self.add(lot, other, amount)
        self.rows.append(("move", lot, one, other, amount))

    def count(self, lot, spot, amount):
        before = self.there(lot, spot)
        self.add(lot, spot, amount - before)
        self.rows.append(("count", lot, spot, before, amount))
        return amount - before

    def next_day(self):
        self.day += 1
        self.rows.append(("day", self.day))
        return self.day

    def does(self, row):
        """Does the deed that a row tells; False where it can't be done, or makes another row than this."""
        deed, things = {
            "come": ("come", row[2:]), "go": ("go", row[1:]), "move": ("move", row[1:]),
            "count": ("count", row[1:3] + row[4:]), "day": ("next_day", ()),
        }[row[0]]
        if self.refusal(deed, things):
            return False
        getattr(self, deed)(*things)
        return self.rows[-1] == row


class StoreReckoning(Reckoning):
    """A plain reckoning of a store: its promises are looked at grain by grain, as the document tells them."""

    def __init__(self, plan, room):
        super().__init__(plan, room)
        self.promises = {}
        self.numbers = 0

    def asks(self, ware):
        return [(day, amount) for other, amount, day in self.promises.values() if other == ware]

    def stock(self, ware, spot=None, lot=None, fewer=0):
        """What lies of a ware and is good today; of one lot in one bin so many fewer."""
        return [
            (due, amount - fewer if (where, other) == (spot, lot) else amount)
            for where, other, amount, due, came in self.pieces(ware, self.day)
        ]

    def all_kept(self):
        wares = {ware for ware, amount, day in self.promises.values()}
        return all(can_keep(self.stock(ware), self.asks(ware)) for ware in wares)

    def broken(self, lot, spot, fewer):
        ware = self.lots[lot][0]
        return None if can_keep(self.stock(ware, spot, lot, fewer), self.asks(ware)) else Broken

    def today_ones(self):
        return [number for number in sorted(self.promises) if self.promises[number][2] == self.day]

    def go_refusal(self, lot, spot, amount):
        return super().go_refusal(lot, spot, amount) or self.broken(lot, spot, amount)

    def count_refusal(self, lot, spot, amount):
        refusal = super().count_refusal(lot, spot, amount)
        return refusal or self.broken(lot, spot, self.there(lot, spot) - amount)

    def next_day_refusal(self):
        return StillOpen if self.today_ones() else super().next_day_refusal()

    def coming(self, day):
        return None if self.whole(day, self.day, 9999) else NoDay

    def promise_refusal(self, ware, amount, day):
        refusal = self.ware(ware) or self.amount(amount) or self.coming(day)
        return refusal or (None if can_keep(self.stock(ware), self.asks(ware) + [(day, amount)]) else Broken)

    def promise(self, ware, amount, day):
        self.promises[self.numbers] = (ware, amount, day)
        self.numbers += 1
        return self.numbers - 1

    def number(self, thing):
        return None if type(thing) is int and thing in self.promises else NoPromise

    def drop_refusal(self, number):
        return self.number(number)

    def drop(self, number):
        del self.promises[number]

    def rule(self, text):
        if type(text) is not str or not re.fullmatch(RULE, text):
            return NoRule
        names = text.replace("-", "").split(" ")
        return None if len(names) == len(set(names)) else NoRule

    def turn(self, ware, text):
        def key(piece):
            names = {"due": piece[3], "came": piece[4], "amount": piece[2], "aisle": piece[0][0], "place": piece[0][1]}
            names["lot"] = piece[1]
            return [-names[word[1:]] if word[0] == "-" else names[word] for word in text.split()], piece[0], piece[1]

        return sorted(self.pieces(ware, self.day), key=key)

    def keep_refusal(self, number, text):
        refusal = self.number(number) or self.rule(text)
        return refusal or (None if self.promises[number][2] == self.day else NotToday)

    def keep(self, number, text):
        """Of each piece in turn the most grains, tried one by one, that leave all others and the want to be kept."""
        ware, wanted, day = self.promises.pop(number)
        told = []
        for spot, lot, lies, due, came in self.turn(ware, text):
            grains = min(lies, wanted)
            while not can_keep(self.stock(ware, spot, lot, grains), self.asks(ware) + [(day, wanted - grains)]):
                grains -= 1
            if grains:
                self.go(lot, spot, grains)
                told.append((spot, lot, grains))
                wanted -= grains
        assert wanted == 0
        return told

    def wave_refusal(self, text):
        return self.rule(text)

    def wave(self, text):
        return [(number,) + row for number in self.today_ones() for row in self.keep(number, text)]

    def planned_refusal(self, text):
        return self.rule(text)

    def planned(self, text):
        return copy.deepcopy(self).wave(text)

    def free_refusal(self, ware, day):
        return self.ware(ware) or self.coming(day)

    def free(self, ware, day):
        more = 0
        while can_keep(self.stock(ware), self.asks(ware) + [(day, more + 1)]):
            more += 1
        return more

    def open_ones(self):
        return [(number,) + self.promises[number] for number in sorted(self.promises)]


# Refusals by their words, as the desk tells them.
REFUSALS = {
    "plan": NoPlan, "name": NoName, "ware": NoWare, "day": NoDay, "bin": NoBin, "lot": NoLot, "amount": NoAmount,
    "room": NoRoom, "little": TooLittle, "rule": NoRule, "promise": NoPromise, "broken": Broken, "today": NotToday,
    "open": StillOpen, "row": NoRow,
}

# What stands behind each word of a row: w a ware, n a number, b a bin's name, r a rule.
FORMS = {
    "come": "wnbn", "go": "nbn", "move": "nbbn", "count": "nbn", "day": "", "promise": "wnn", "drop": "n", "free": "wn",
    "keep": "nr", "wave": "r", "walk": "r", "in": "b", "of": "w",
}

SLOTS = {"w": "([^ ]+)", "n": "([0-9]{1,7})", "b": "([a-z](?!00)[0-9]{2})", "r": "([^ ]+(?: +[^ ]+)*)"}


def name_of(spot):
    return "%s%02d" % ("ABCDEFGHIJKLMNOPQRSTUVWXYZ"[spot[0]], spot[1])


def told_by(text):
    """The word and the things that a row of text tells, by one pattern for each word; None of what is no row."""
    for word, form in FORMS.items():
        match = re.fullmatch(" *" + " +".join([word] + [SLOTS[slot] for slot in form]) + " *", text.lower())
        if match:
            return word, [thing_of(slot, part) for slot, part in zip(form, match.groups())]
    return None


def thing_of(slot, part):
    if slot == "n":
        return int(part)
    if slot == "b":
        return ord(part[0]) - ord("a"), int(part[1:])
    return re.sub(" +", " ", part)


def rows_as_text(rows):
    things = [[name_of(thing) if type(thing) is tuple else str(thing) for thing in row] for row in rows]
    return "; ".join(" ".join(row) for row in things) or "none"


class DeskReckoning(StoreReckoning):
    """A plain reckoning of a desk: what it must answer to a row of text."""

    METHODS = {"day": "next_day", "walk": "walked", "in": "inside", "of": "grains"}

    def right(self, text):
        """All answers of which any is right (several of a walk alone); the row is done."""
        if type(text) is str and re.match(r" *(#|\Z)", text):
            return [""]
        told = told_by(text) if type(text) is str else None
        if not told:
            return ["no row"]
        deed, things = self.METHODS.get(told[0], told[0]), told[1]
        refusal = self.refusal(deed, things)
        if refusal:
            return ["no " + word for word in REFUSALS if REFUSALS[word] is refusal]
        answer = getattr(self, deed)(*things)
        if deed == "walked":
            return answer
        if deed in ("keep", "wave", "inside"):
            return [rows_as_text(answer)]
        return ["ok" if answer is None else str(answer)]

    def walked_refusal(self, text):
        return self.rule(text)

    def walked(self, text):
        """One answer for each walk by the rule that is as short as any."""
        bins = [row[1] for row in self.planned(text)]
        every = ways(self.plan, bins)
        shortest = min(plain_length(self.plan, way) for way in every)
        return [
            " ".join([str(shortest)] + [name_of(spot) for spot in plain_stops(self.plan, way, bins)])
            for way in every if plain_length(self.plan, way) == shortest
        ]

    def inside_refusal(self, spot):
        return self.bin(spot)

    def inside(self, spot):
        return sorted((lot, amount) for (where, lot), amount in self.lies.items() if where == spot and amount)

    def grains_refusal(self, ware):
        return self.ware(ware)

    def grains(self, ware):
        return self.total(ware, 0)


STORE_DEEDS = ["come"] * 6 + ["promise"] * 5 + ["keep"] * 3 + """go go move move count count count next_day drop wave
planned free""".split()


def some_store_deed(reckoning, chance, wrong):
    """As some_deed, with promises, mostly of what lies and of what can be promised."""
    plan, deed = reckoning.plan, chance.choice(STORE_DEEDS)
    ware, day = chance.choice(["oats", "oats", "rye"]), reckoning.day + chance.choice([-1, 0, 0, 0, 1, 1, 2, 3, 4])
    spots = [(aisle, place) for aisle in range(plan[0]) for place in range(1, plan[1] + 1)]
    stacks = sorted(stack for stack, amount in reckoning.lies.items() if amount)
    spot, lot = chance.choice(stacks or [(spots[0], 0)])
    one, other = chance.choice([spot, spot, spot, chance.choice(spots)]), chance.choice(spots)
    lies, grains = reckoning.there(lot, one), chance.randrange(1, reckoning.room + 1)
    amount = chance.choice([1, max(lies, 1), chance.randrange(1, lies + 2), grains])
    most = reckoning.free(ware, day) if day >= reckoning.day else 3
    wanted = max(1, chance.choice([1, 2, most, most // 2, most // 3, most + 1]))
    number = chance.choice(list(reckoning.promises) or [0])
    if chance.randrange(6) == 0:
        number = chance.randrange(reckoning.numbers + 2)
    text = chance.choice(RULES)
    things, slots = {
        "come": ([ware, day, other, grains], "wdba"), "go": ([lot, one, amount], "lba"),
        "move": ([lot, one, other, amount], "lbba"), "count": ([lot, one, amount - chance.randrange(2)], "lba"),
        "next_day": ([], ""), "promise": ([ware, wanted, day], "wad"), "free": ([ware, day], "wd"),
        "drop": ([number], "n"), "keep": ([number, text], "nr"), "wave": ([text], "r"), "planned": ([text], "r"),
    }[deed]
    if slots and chance.randrange(wrong) == 0:
        where = chance.randrange(len(slots))
        wrongs = {
            "w": WRONG_WARES, "d": WRONG_DAYS, "b": wrong_bins(plan), "l": WRONG_LOTS, "a": WRONG_AMOUNTS,
            "n": WRONG_NUMBERS, "r": WRONG_RULES,
        }
        things[where] = chance.choice(wrongs[slots[where]])
    return deed, things


def some_deed(reckoning, chance, wrong):
    """A deed and the things handed in with it; in one deed of wrong many, one thing is none."""
    plan = reckoning.plan
    spots = [(aisle, place) for aisle in range(plan[0]) for place in range(1, plan[1] + 1)]
    lot = chance.randrange(len(reckoning.lots) + 1)
    one, other = chance.choice(spots), chance.choice(spots)
    amount = chance.choice([1, 2, 3, reckoning.room // 2 + 1, reckoning.there(lot, one) or 1, reckoning.room])
    deed = chance.choice(["come", "go", "go", "move", "move", "move", "count", "count", "next_day"])
    things, slots = {
        "come": ([chance.choice(["oats", "rye"]), reckoning.day + chance.randrange(-1, 4), one, amount], "wdba"),
        "go": ([lot, one, amount], "lba"),
        "move": ([lot, one, other, amount], "lbba"),
        "count": ([lot, one, chance.choice([0, amount, reckoning.there(lot, one)])], "lba"),
        "next_day": ([], ""),
    }[deed]
    if slots and chance.randrange(wrong) == 0:
        where = chance.randrange(len(slots))
        wrongs = {"w": WRONG_WARES, "d": WRONG_DAYS, "b": wrong_bins(plan), "l": WRONG_LOTS, "a": WRONG_AMOUNTS}
        things[where] = chance.choice(wrongs[slots[where]])
    return deed, things
