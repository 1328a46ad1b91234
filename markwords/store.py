"""A store that keeps worths in words, and great numbers and pairs outside."""

from markwords.errors import NoRoom
from markwords.layings import load_bits, mark_of
from markwords.limbs import PAIR_HEAD, PAIR_SIZE, is_great, rows_of
from markwords.needs import need_divisor, need_numbers, need_pair
from markwords.plain import REGISTERS
from markwords.sweeping import swept
from markwords.things import read_worth
from markwords.words import address_of, is_small, word_of

KINDS_BY_MARK = {"small": "number", "far": "number", "pair": "pair", "sign": "sign", "one": "one"}


def own_laying(laying):
    """The laying with a list of its own, which no change of the other's list reaches."""
    return (laying[0], list(laying[1]))


def most_outside(laying, room):
    """How many words an outside may have."""
    return min(room, 1 << load_bits(laying, "far"), 1 << load_bits(laying, "pair"))


class Store:
    """Eight registers that hold words, an outside, and the deeds that are done with them."""

    def __init__(self, laying, room):
        self.laying = own_laying(laying)
        self.room = room
        self.held = [word_of(laying, "none")] * REGISTERS
        self.kept = []
        self.quick = 0
        self.slow = 0
        self.sweeps = 0

    def words(self):
        return list(self.held)

    def outside(self):
        return list(self.kept)

    def sweep(self):
        left = swept(self.laying, self.held, self.kept)
        self.held = left[0]
        self.kept = left[1]
        self.sweeps += 1

    def lacks(self, size):
        return len(self.kept) + size > most_outside(self.laying, self.room)

    def make_room(self, size):
        if self.lacks(size):
            self.sweep()
        if self.lacks(size):
            raise NoRoom("the outside lacks room")

    def lay(self, r, kind, thing):
        self.held[r] = word_of(self.laying, (kind, len(self.kept)))
        self.kept.extend(thing)

    def number(self, r, n):
        if is_small(self.laying, n):
            self.held[r] = word_of(self.laying, n)
            return
        if is_great(self.laying, n):
            raise NoRoom("a number of too many limbs")
        thing = rows_of(self.laying, n)
        self.make_room(len(thing))
        self.lay(r, "far", thing)

    def sign(self, r, k):
        self.held[r] = word_of(self.laying, ("sign", k))

    def one(self, r, text):
        self.held[r] = word_of(self.laying, text)

    def copy(self, r, q):
        self.held[r] = self.held[q]

    def in_word(self, q):
        return mark_of(self.laying, self.held[q]) == "small"

    def come_of_two(self, r, q, p, n):
        # Asked ahead of the deed, since r may be q or p; counted behind it, since it may be refused.
        in_words = self.in_word(q) and self.in_word(p)
        self.number(r, n)
        if in_words and self.in_word(r):
            self.quick += 1
        else:
            self.slow += 1

    def plus(self, r, q, p):
        need_numbers(self, q, p)
        self.come_of_two(r, q, p, self.told(q) + self.told(p))

    def less(self, r, q, p):
        need_numbers(self, q, p)
        self.come_of_two(r, q, p, self.told(q) - self.told(p))

    def times(self, r, q, p):
        need_numbers(self, q, p)
        self.come_of_two(r, q, p, self.told(q) * self.told(p))

    def over(self, r, q, p):
        need_divisor(self, q, p)
        self.come_of_two(r, q, p, self.told(q) // self.told(p))

    def rest(self, r, q, p):
        need_divisor(self, q, p)
        self.come_of_two(r, q, p, self.told(q) % self.told(p))

    def pair(self, r, q, p):
        self.make_room(PAIR_SIZE)
        self.lay(r, "pair", [PAIR_HEAD, self.held[q], self.held[p]])

    def pair_in(self, q):
        need_pair(self, q)
        return address_of(self.laying, self.held[q])

    def first(self, r, q):
        self.held[r] = self.kept[self.pair_in(q) + 1]

    def second(self, r, q):
        self.held[r] = self.kept[self.pair_in(q) + 2]

    def set_first(self, q, p):
        self.kept[self.pair_in(q) + 1] = self.held[p]

    def set_second(self, q, p):
        self.kept[self.pair_in(q) + 2] = self.held[p]

    def below(self, q, p):
        need_numbers(self, q, p)
        return self.told(q) < self.told(p)

    def same(self, q, p):
        # A great number may stand outside more than once; every other worth is the same by its word.
        if self.kind(q) == "number":
            return self.told(q) == self.told(p)
        return self.held[q] == self.held[p]

    def kind(self, q):
        return KINDS_BY_MARK[mark_of(self.laying, self.held[q])]

    def told(self, q):
        if self.kind(q) == "pair":
            return "pair"
        return read_worth(self.laying, self.kept, self.held[q])


def store_of(laying, room, words, outside):
    """A store that holds just these words and this outside."""
    store = Store(laying, room)
    store.held = list(words)
    store.kept = list(outside)
    return store
