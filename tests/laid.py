"""Layings, words, things and whole stores as the document tells them, written without the program."""

import itertools

from tests.worths import DEEDS_OF_TWO, THREE, Twosome

KINDS = ["small", "far", "pair", "sign", "one"]
LEAST = [2, 3, 3, 7, 2]

# Right for 8 bits and all above; the second leaves words without a mark.
FULL = [("sign", 1, 0), ("small", 3, 1), ("far", 3, 3), ("pair", 3, 5), ("one", 3, 7)]
OPEN = [("one", 4, 3), ("sign", 1, 0), ("pair", 4, 11), ("small", 3, 1), ("far", 4, 5)]
# Right from 8 bits on too; with 8 bits, far loads and pair loads have as few bits as they may have.
TIGHT_FAR = [("far", 5, 11), ("one", 6, 7), ("pair", 4, 5), ("sign", 1, 0), ("small", 6, 9)]
TIGHT_PAIR = [("pair", 5, 31), ("small", 2, 1), ("sign", 1, 0), ("far", 3, 3), ("one", 4, 7)]
# Right from 9, from 10 bits on.
LEAN = [("small", 2, 3), ("far", 3, 6), ("pair", 3, 2), ("sign", 2, 1), ("one", 2, 0)]
WIDE = [("pair", 3, 4), ("small", 1, 1), ("sign", 3, 2), ("one", 4, 8), ("far", 5, 16)]


def layings_of(bits):
    """Right layings of so many bits, with lists of their own."""
    kept = [FULL, OPEN, TIGHT_FAR, TIGHT_PAIR]
    if bits >= 9:
        kept.append(LEAN)
    if bits >= 10:
        kept.append(WIDE)
    return [(bits, list(marks)) for marks in kept]


def widths_of(laying):
    """The widths in the order small, far, pair, sign, one."""
    widths = {kind: width for kind, width, pattern in laying[1]}
    return [widths[kind] for kind in KINDS]


def is_right(laying):
    """Whether a laying is right, without the program's own judge."""
    bits, marks = laying
    if not 8 <= bits <= 32 or sorted(mark[0] for mark in marks) != sorted(KINDS):
        return False
    if not all(1 <= width < bits and 0 <= pattern < 2 ** width for kind, width, pattern in marks):
        return False
    for one, other in itertools.combinations(marks, 2):
        shared = 2 ** min(one[1], other[1])
        if one[2] % shared == other[2] % shared:
            return False
    return all(bits - width >= least for width, least in zip(widths_of(laying), LEAST))


def load_bits(laying, kind):
    return laying[0] - {name: width for name, width, pattern in laying[1]}[kind]


def with_mark(laying, kind, load):
    """The word with a mark and a load."""
    for name, width, pattern in laying[1]:
        if name == kind:
            return load * 2 ** width + pattern


def stands_for(laying, kind, load):
    """What the word with a mark and a load stands for, by the words of point 9."""
    if kind == "small":
        s = load_bits(laying, kind)
        return load if load < 2 ** (s - 1) else load - 2 ** s
    if kind == "sign":
        return ("sign", load) if load <= 127 else None
    if kind == "one":
        return {0: "none", 1: "no", 2: "yes"}.get(load)
    return (kind, load)


def smallest(laying):
    return -(2 ** (load_bits(laying, "small") - 1))


def greatest(laying):
    return 2 ** (load_bits(laying, "small") - 1) - 1


def small(laying, n):
    return smallest(laying) <= n <= greatest(laying)


def word_for(laying, worth):
    """The word of a small number, a sign, one of the three, an address."""
    if isinstance(worth, int):
        return with_mark(laying, "small", worth if worth >= 0 else worth + 2 ** load_bits(laying, "small"))
    if isinstance(worth, str):
        return with_mark(laying, "one", THREE.index(worth))
    return with_mark(laying, *worth)


def worths_by_word(laying):
    """What each word stands for that is of a kind."""
    worths = list(range(smallest(laying), greatest(laying) + 1)) + THREE + [("sign", k) for k in range(128)]
    for kind in ("far", "pair"):
        worths += [(kind, address) for address in range(2 ** load_bits(laying, kind))]
    return {word_for(laying, worth): worth for worth in worths}


def limbs_for(laying, n):
    """The limbs of a number's amount, cut from its figures to the base 2."""
    figures = bin(abs(n))[2:]
    limbs = []
    while figures:
        limbs.append(int(figures[-laying[0]:], 2))
        figures = figures[:-laying[0]]
    return limbs


def row_for(laying, n):
    limbs = limbs_for(laying, n)
    return [len(limbs) * 4 + (2 if n < 0 else 0)] + limbs


def great(laying, n):
    return len(limbs_for(laying, n)) > 2 ** (laying[0] - 2) - 1


def most_words(laying, room):
    return min(room, 2 ** load_bits(laying, "far"), 2 ** load_bits(laying, "pair"))


class Refused(Exception):
    """A deed that the model refuses: the name of the error, and the part of a WrongKind."""

    def __init__(self, name, part=None):
        super().__init__(name, part)
        self.refused = (name, part)


class Row:
    """A number outside, in the model."""

    def __init__(self, n):
        self.n = n


class LaidModel:
    """A store as the document tells it: a list of things that know nothing of addresses, written out when asked."""

    def __init__(self, laying, room):
        self.laying = laying
        self.room = room
        self.worths = ["none"] * 8
        self.things = []
        self.quick = self.slow = self.sweeps = 0

    def size(self, thing):
        return 3 if isinstance(thing, Twosome) else len(row_for(self.laying, thing.n))

    def address(self, thing):
        places = [place for place, other in enumerate(self.things) if other is thing]
        return sum(self.size(other) for other in self.things[:places[0]])

    def word(self, worth):
        if isinstance(worth, Row):
            return word_for(self.laying, ("far", self.address(worth)))
        if isinstance(worth, Twosome):
            return word_for(self.laying, ("pair", self.address(worth)))
        return word_for(self.laying, worth)

    def words(self):
        return [self.word(worth) for worth in self.worths]

    def outside(self):
        rows = []
        for thing in self.things:
            if isinstance(thing, Twosome):
                rows += [1, self.word(thing.first), self.word(thing.second)]
            else:
                rows += row_for(self.laying, thing.n)
        return rows

    def reached(self):
        found, queue = [], list(self.worths)
        for worth in queue:
            if isinstance(worth, (Row, Twosome)) and not any(worth is other for other in found):
                found.append(worth)
                if isinstance(worth, Twosome):
                    queue += [worth.first, worth.second]
        return found

    def sweep(self):
        found = self.reached()
        self.things = [thing for thing in self.things if any(thing is other for other in found)]
        self.sweeps += 1

    def lacks(self, thing):
        return sum(map(self.size, self.things)) + self.size(thing) > most_words(self.laying, self.room)

    def lay(self, thing):
        if self.lacks(thing):
            self.sweep()
            if self.lacks(thing):
                raise Refused("NoRoom")
        self.things.append(thing)
        return thing

    def number(self, r, n):
        if great(self.laying, n):
            raise Refused("NoRoom")
        self.worths[r] = n if small(self.laying, n) else self.lay(Row(n))

    def sign(self, r, k):
        self.worths[r] = ("sign", k)

    def one(self, r, text):
        self.worths[r] = text

    def copy(self, r, q):
        self.worths[r] = self.worths[q]

    def kind(self, q):
        return {int: "number", Row: "number", tuple: "sign", str: "one", Twosome: "pair"}[type(self.worths[q])]

    def n(self, q, part):
        if self.kind(q) != "number":
            raise Refused("WrongKind", part)
        return self.worths[q].n if isinstance(self.worths[q], Row) else self.worths[q]

    def two(self, deed, r, q, p):
        n, m = self.n(q, 1), self.n(p, 2)
        if deed in ("over", "rest") and m == 0:
            raise Refused("Nought")
        what = DEEDS_OF_TWO[deed](n, m)
        self.number(r, what)
        if all(small(self.laying, number) for number in (n, m, what)):
            self.quick += 1
        else:
            self.slow += 1

    def plus(self, r, q, p):
        self.two("plus", r, q, p)

    def less(self, r, q, p):
        self.two("less", r, q, p)

    def times(self, r, q, p):
        self.two("times", r, q, p)

    def over(self, r, q, p):
        self.two("over", r, q, p)

    def rest(self, r, q, p):
        self.two("rest", r, q, p)

    def pair(self, r, q, p):
        self.worths[r] = self.lay(Twosome(self.worths[q], self.worths[p]))

    def pair_in(self, q):
        if self.kind(q) != "pair":
            raise Refused("WrongKind", 1)
        return self.worths[q]

    def first(self, r, q):
        self.worths[r] = self.pair_in(q).first

    def second(self, r, q):
        self.worths[r] = self.pair_in(q).second

    def set_first(self, q, p):
        self.pair_in(q).first = self.worths[p]

    def set_second(self, q, p):
        self.pair_in(q).second = self.worths[p]

    def below(self, q, p):
        n, m = self.n(q, 1), self.n(p, 2)
        return n < m

    def same(self, q, p):
        if self.kind(q) == "number" == self.kind(p):
            return self.n(q, 1) == self.n(p, 2)
        if self.kind(q) == "pair":
            return self.worths[q] is self.worths[p]
        return self.worths[q] == self.worths[p]

    def told(self, q):
        if self.kind(q) == "pair":
            return "pair"
        return self.n(q, 1) if self.kind(q) == "number" else self.worths[q]


def seen(store):
    """All that a store or the model shows of itself."""
    return {
        "laying": (store.laying[0], list(store.laying[1])), "room": store.room,
        "words": store.words(), "outside": store.outside(),
        "counts": (store.quick, store.slow, store.sweeps),
    }
