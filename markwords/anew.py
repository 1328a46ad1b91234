"""Stores laid anew under another laying or with another room."""

from markwords.errors import NoRoom
from markwords.limbs import PAIR_HEAD, is_great, rows_of
from markwords.store import most_outside, store_of
from markwords.things import is_pair, pair_words_at, read_worth
from markwords.words import address_of, is_small, word_of


class Mover:
    """Writes the words of an old store anew under a laying, and lays the outside that they need."""

    def __init__(self, store, laying, room):
        self.old_laying = store.laying
        self.old_kept = store.outside()
        self.laying = laying
        self.most = most_outside(laying, room)
        self.kept = []
        # The new words of the old things that were met, by their old addresses: each of them is laid but once.
        self.met = {}
        # The pairs in the order they were met, each by its old address and its new one.
        self.queue = []

    def put_behind(self, kind, thing):
        if len(self.kept) + len(thing) > self.most:
            raise NoRoom("the outside lacks room")
        word = word_of(self.laying, (kind, len(self.kept)))
        self.kept.extend(thing)
        return word

    def number_word(self, n):
        if is_small(self.laying, n):
            return word_of(self.laying, n)
        if is_great(self.laying, n):
            raise NoRoom("a number of too many limbs")
        return self.put_behind("far", rows_of(self.laying, n))

    def pair_word(self, address):
        self.queue.append((address, len(self.kept)))
        # What stands behind the head is known only when the queue comes to this pair.
        return self.put_behind("pair", [PAIR_HEAD, 0, 0])

    def new_word(self, word):
        worth = read_worth(self.old_laying, self.old_kept, word)
        if isinstance(worth, int):
            return self.number_word(worth)
        if is_pair(worth):
            return self.pair_word(worth[1])
        return word_of(self.laying, worth)

    def moved(self, word):
        address = address_of(self.old_laying, word)
        if address is None:
            return self.new_word(word)
        if address not in self.met:
            self.met[address] = self.new_word(word)
        return self.met[address]

    def fill_pair(self, old, new):
        for step, word in enumerate(pair_words_at(self.old_kept, old), start=1):
            self.kept[new + step] = self.moved(word)

    def fill_pairs(self):
        filled = 0
        # Pairs that are met here are put behind the queue, so it may grow meanwhile.
        while filled < len(self.queue):
            self.fill_pair(self.queue[filled][0], self.queue[filled][1])
            filled += 1


def laid_anew(store, laying, room):
    """A store that is alike to this one, under a laying and with a room; NoRoom where it does not find room."""
    mover = Mover(store, laying, room)
    words = [mover.moved(word) for word in store.words()]
    mover.fill_pairs()
    return store_of(laying, room, words, mover.kept)
