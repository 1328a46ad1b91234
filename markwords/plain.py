"""Plain worths, and a store that holds them as they are."""

from markwords.needs import need_divisor, need_numbers, need_pair

REGISTERS = 8


class Pair:
    """Two worths that may be changed.

    It says nothing of being equal, so that == asks for the very same pair, not for one with alike worths.
    """

    def __init__(self, left, right):
        self.left = left
        self.right = right


def kind_of(worth):
    """The kind of a worth."""
    if isinstance(worth, int):
        return "number"
    if isinstance(worth, tuple):
        return "sign"
    if isinstance(worth, str):
        return "one"
    return "pair"


class PlainStore:
    """Eight registers that hold plain worths, and the deeds that are done with them."""

    def __init__(self):
        self.held = ["none"] * REGISTERS

    def pair_in(self, q):
        need_pair(self, q)
        return self.held[q]

    def number(self, r, n):
        self.held[r] = n

    def sign(self, r, k):
        self.held[r] = ("sign", k)

    def one(self, r, text):
        self.held[r] = text

    def copy(self, r, q):
        self.held[r] = self.held[q]

    def plus(self, r, q, p):
        need_numbers(self, q, p)
        self.held[r] = self.held[q] + self.held[p]

    def less(self, r, q, p):
        need_numbers(self, q, p)
        self.held[r] = self.held[q] - self.held[p]

    def times(self, r, q, p):
        need_numbers(self, q, p)
        self.held[r] = self.held[q] * self.held[p]

    def over(self, r, q, p):
        need_divisor(self, q, p)
        self.held[r] = self.held[q] // self.held[p]

    def rest(self, r, q, p):
        need_divisor(self, q, p)
        self.held[r] = self.held[q] % self.held[p]

    def pair(self, r, q, p):
        self.held[r] = Pair(self.held[q], self.held[p])

    def first(self, r, q):
        self.held[r] = self.pair_in(q).left

    def second(self, r, q):
        self.held[r] = self.pair_in(q).right

    def set_first(self, q, p):
        changed = self.pair_in(q)
        changed.left = self.held[p]

    def set_second(self, q, p):
        changed = self.pair_in(q)
        changed.right = self.held[p]

    def below(self, q, p):
        need_numbers(self, q, p)
        return self.held[q] < self.held[p]

    def same(self, q, p):
        return self.held[q] == self.held[p]

    def kind(self, q):
        return kind_of(self.held[q])

    def told(self, q):
        worth = self.held[q]
        return "pair" if kind_of(worth) == "pair" else worth
