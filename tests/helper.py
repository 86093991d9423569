"""What several tests draw on."""

from decimal import Decimal
from fractions import Fraction


class Plain:
    pass


def odd_things():
    """Things of many kinds; none of them is what any function of the package asks for."""
    return [
        None, True, False, 0.0, 1.0, 1.5, float("nan"), float("inf"), 1j, Decimal(1), Fraction(1),
        -10 ** 5000, 10 ** 5000, "", " ", "\n", "0", "-1", "A", "?", b"", b"abc", b"A07",
        [], [1], [0, 1], [1, 1], [2, 3, 1], (), (1,), (None, None), (None, 1), (0, None), (0.0, 1), (0, 1.0),
        ("0", "1"), ("A", "07"), (0, "1"), ((0, 1),), ((0,), (1,)), ([0], [1]), (0, 1, 1, 1), (True, True), (False, True),
        (10 ** 5000, 1), (0, 10 ** 5000), (-10 ** 5000, -10 ** 5000),
        {}, {0: 1}, {0: 0, 1: 1}, set(), {0, 1}, frozenset((0, 1)), range(2), iter((0, 1)),
        Plain, Plain(), object(), len, lambda: 1, Ellipsis, NotImplemented,
    ]


def shown(thing):
    """Python won't write very great numbers: of a thing with one in it the kind alone is shown."""
    try:
        return ascii(thing)
    except ValueError:
        return type(thing).__name__
