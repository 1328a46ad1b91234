"""Things outside: where they stand, and what words stand for that may have their addresses."""

from markwords.layings import mark_of
from markwords.limbs import PAIR_HEAD, number_at, size_at
from markwords.words import worth_of


def heads_in(outside):
    """The addresses of all things, in their order."""
    heads = []
    address = 0
    while address < len(outside):
        heads.append(address)
        address += size_at(outside, address)
    return heads


def pair_words_at(outside, address):
    """The two words of a pair; of a number none, since limbs stand for no worths."""
    return outside[address + 1:address + 3] if outside[address] == PAIR_HEAD else []


def read_worth(laying, outside, word):
    """What a word stands for, a number outside as the number it is; of a pair ("pair", address)."""
    worth = worth_of(laying, word)
    if mark_of(laying, word) == "far":
        return number_at(laying, outside, worth[1])
    return worth


def is_pair(worth):
    """Whether what was read of a word is a pair's address."""
    return isinstance(worth, tuple) and worth[0] == "pair"
