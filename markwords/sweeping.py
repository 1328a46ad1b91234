"""Sweeping an outside: what is reached stays and closes up, the rest is left out."""

from markwords.layings import mark_of
from markwords.limbs import PAIR_HEAD, size_at
from markwords.things import heads_in, pair_words_at
from markwords.words import address_of, word_of


def reached_from(laying, words, outside):
    """The addresses of the things that are reached from these words, as keys of a dict."""
    reached = {}
    waiting = list(words)
    while waiting:
        address = address_of(laying, waiting.pop())
        if address is not None and address not in reached:
            reached[address] = True
            waiting.extend(pair_words_at(outside, address))
    return reached


def new_places(outside, reached):
    """For each address of a reached thing, in order, the one it has when all these close up."""
    places = {}
    filled = 0
    for address in heads_in(outside):
        if address in reached:
            places[address] = filled
            filled += size_at(outside, address)
    return places


def moved_word(laying, places, word):
    """A word with its address, if it has one, as it is behind the sweep."""
    address = address_of(laying, word)
    if address is None:
        return word
    return word_of(laying, (mark_of(laying, word), places[address]))


def moved_thing(laying, places, outside, address):
    """The words of a thing as they are behind the sweep."""
    if outside[address] == PAIR_HEAD:
        return [PAIR_HEAD] + [moved_word(laying, places, word) for word in pair_words_at(outside, address)]
    return outside[address:address + size_at(outside, address)]


def swept(laying, words, outside):
    """The words of the registers and the outside behind a sweep."""
    places = new_places(outside, reached_from(laying, words, outside))
    left = []
    for address in places:
        left.extend(moved_thing(laying, places, outside, address))
    return ([moved_word(laying, places, word) for word in words], left)
