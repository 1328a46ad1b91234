"""What several tests need: numbers to try, a model of the registers, and looks at a whole store."""

import math
from fractions import Fraction

from markwords import errors

SMALL = [0, 1, -1, 2, -2, 3, 7, -7, 10]
NEAR_POWERS = [
    sign * (2 ** bits + more)
    for bits in (3, 6, 7, 8, 13, 16, 29, 31, 32, 63, 64)
    for more in (-1, 0, 1)
    for sign in (1, -1)
]
GREAT = [10 ** 59, -(10 ** 59), 10 ** 60 - 1, -(10 ** 60 - 1), 271828182845904523536028747135266249775724709369995957496696]
NUMBERS = SMALL + NEAR_POWERS + GREAT
THREE = ["none", "no", "yes"]
KINDS = ["number", "sign", "one", "pair"]
REFUSALS = [errors.WrongKind, errors.Nought, errors.NoRoom, errors.Faulty, errors.NoText, errors.NotFormed]
REGISTERS = range(8)
DEEDS_OF_TWO = {
    "plus": lambda n, m: n + m,
    "less": lambda n, m: n - m,
    "times": lambda n, m: n * m,
    "over": lambda n, m: math.floor(Fraction(n, m)),
    "rest": lambda n, m: n - m * math.floor(Fraction(n, m)),
}


class Twosome:
    """A pair of the model; the tests ask with `is` whether two are one."""

    def __init__(self, first, second):
        self.first = first
        self.second = second


class Model:
    """The registers as the document tells them, written without the program."""

    def __init__(self):
        self.worths = ["none"] * 8

    def kind(self, q):
        worth = self.worths[q]
        if isinstance(worth, Twosome):
            return "pair"
        return {int: "number", tuple: "sign", str: "one"}[type(worth)]

    def told(self, q):
        return "pair" if self.kind(q) == "pair" else self.worths[q]

    def same(self, q, p):
        if self.kind(q) != self.kind(p):
            return False
        if self.kind(q) == "pair":
            return self.worths[q] is self.worths[p]
        return self.worths[q] == self.worths[p]


def look(store):
    """All that a store tells of its registers by told, kind and same."""
    return (
        [store.told(q) for q in REGISTERS],
        [store.kind(q) for q in REGISTERS],
        [[store.same(q, p) for p in REGISTERS] for q in REGISTERS],
    )


def put(store, r, kind, spare=0):
    """Puts some worth of a kind into r."""
    if kind == "number":
        store.number(r, 41 + spare)
    elif kind == "sign":
        store.sign(r, 41 + spare)
    elif kind == "one":
        store.one(r, THREE[spare % 3])
    else:
        store.pair(r, (r + 1) % 8, (r + 2) % 8)


def refusal(case, wanted, deed, *parts):
    """The error that a deed is refused with: of just the class wanted, taken by no other class of the program."""
    try:
        deed(*parts)
    except ValueError as error:
        taken = [kind for kind in REFUSALS if isinstance(error, kind)]
        case.assertEqual(taken, [wanted])
        case.assertIsInstance(error, errors.WordError)
        return error
    case.fail(f"{deed.__name__}{parts} is not refused")
