"""What deeds need of the registers they look at, however a store keeps its worths."""

from markwords.errors import Nought, WrongKind


def need_numbers(store, q, p):
    """Refuses a deed that does not find numbers in q and p."""
    if store.kind(q) != "number":
        raise WrongKind(1)
    if store.kind(p) != "number":
        raise WrongKind(2)


def need_divisor(store, q, p):
    """Refuses a deed that does not find numbers in q and p, or finds 0 in p."""
    need_numbers(store, q, p)
    if store.told(p) == 0:
        raise Nought("a number by 0")


def need_pair(store, q):
    """Refuses a deed that does not find a pair in q."""
    if store.kind(q) != "pair":
        raise WrongKind(1)
