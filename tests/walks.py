"""Rows of deeds by chance (the same ones each time), and what comes of a deed in any store."""

import random

from markwords.errors import WordError
from tests.laid import Refused
from tests.worths import NUMBERS, THREE

# How many parts of each deed are registers.
DEEDS = {
    "copy": 2, "plus": 3, "less": 3, "times": 3, "over": 3, "rest": 3, "pair": 3, "first": 2, "second": 2,
    "set_first": 2, "set_second": 2, "below": 2, "same": 2, "kind": 1, "told": 1,
}
TWO_NUMBERS = ["plus", "less", "times", "over", "rest"]
MOST_AMOUNT = 10 ** 300


def outcome(store, deed):
    """What comes of a deed: what is told, or the name of the refusal and its part."""
    name, parts = deed
    try:
        return ("told", getattr(store, name)(*parts))
    except Refused as refused:
        return ("refused",) + refused.refused
    except WordError as error:
        return ("refused", type(error).__name__, getattr(error, "part", None))


def by_chance(seed, count, heavy=()):
    """So many deeds; those named in heavy come more often."""
    chance = random.Random(seed)
    names = ["number"] * 6 + ["sign", "one", "pair", "pair"] + sorted(DEEDS) + list(heavy)
    for turn in range(count):
        name = chance.choice(names)
        if name == "number":
            yield (name, (chance.randrange(8), number_by_chance(chance)))
        elif name == "sign":
            yield (name, (chance.randrange(8), chance.choice([0, 1, 64, 126, 127])))
        elif name == "one":
            yield (name, (chance.randrange(8), chance.choice(THREE)))
        else:
            yield (name, tuple(chance.randrange(8) for part in range(DEEDS[name])))


def number_by_chance(chance):
    if chance.random() < 0.4:
        return chance.randint(-40, 40)
    if chance.random() < 0.7:
        return chance.choice((1, -1)) * chance.getrandbits(chance.choice((6, 8, 9, 16, 20, 33, 64)))
    return chance.choice(NUMBERS)


def grows_too_far(store, deed):
    """Whether a product would have more figures than a test has time for."""
    name, parts = deed
    if name != "times" or not store.kind(parts[1]) == store.kind(parts[2]) == "number":
        return False
    return abs(store.told(parts[1]) * store.told(parts[2])) > MOST_AMOUNT
