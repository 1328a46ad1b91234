"""Images of stores: their judge, and stores that are opened of them, or alike."""

from markwords.errors import Faulty
from markwords.layings import laying_fault, mark_of
from markwords.limbs import PAIR_HEAD, number_at, size_at
from markwords.plain import REGISTERS
from markwords.store import most_outside, own_laying, store_of
from markwords.things import heads_in, is_pair, pair_words_at, read_worth
from markwords.words import address_of, is_small, worth_of

MOST_ROOM = 400


def room_goes(laying, room, words, outside):
    """Whether the room and the lengths of both lists are within their bounds."""
    if not 0 <= room <= MOST_ROOM or len(words) != REGISTERS:
        return False
    return len(outside) <= most_outside(laying, room)


def word_fault(laying, whole):
    """The fault of the first one that is none of the laying's words, or None."""
    for k, word in enumerate(whole):
        if not 0 <= word < 1 << laying[0]:
            return ("word", k)
    return None


def is_head(word):
    """Whether a word is a head, of a pair or of a number."""
    return word == PAIR_HEAD or word >= 4 and word % 4 in (0, 2)


def fault_at(laying, outside, address):
    """What is wrong with the thing at an address, or None."""
    if not is_head(outside[address]):
        return "head"
    end = address + size_at(outside, address)
    if end > len(outside):
        return "end"
    if outside[address] == PAIR_HEAD:
        return None
    if outside[end - 1] == 0:
        return "limb"
    return "small" if is_small(laying, number_at(laying, outside, address)) else None


def thing_fault(laying, outside):
    """The fault of the first thing that has one, or None."""
    address = 0
    while address < len(outside):
        wrong = fault_at(laying, outside, address)
        if wrong is not None:
            return (wrong, REGISTERS + address)
        address += size_at(outside, address)
    return None


def marks_by_head(outside):
    """For each address of a thing the mark that words with this address have."""
    marks = {}
    for address in heads_in(outside):
        marks[address] = "pair" if outside[address] == PAIR_HEAD else "far"
    return marks


def worth_places(outside):
    """Where the words are that stand for worths: the eight, then the pairs' words, counted on behind the eight."""
    places = list(range(REGISTERS))
    for address in heads_in(outside):
        if outside[address] == PAIR_HEAD:
            places.append(REGISTERS + address + 1)
            places.append(REGISTERS + address + 2)
    return places


def worth_fault(laying, words, outside):
    """The fault of the first word that is to stand for a worth and does not, or None."""
    whole = words + outside
    marks = marks_by_head(outside)
    for k in worth_places(outside):
        if worth_of(laying, whole[k]) is None:
            return ("kind", k)
        address = address_of(laying, whole[k])
        if address is not None and marks.get(address) != mark_of(laying, whole[k]):
            return ("address", k)
    return None


def image_fault(image):
    """The first fault of an image, a tuple (word, k), or None."""
    laying = image[0]
    words = image[2]
    outside = image[3]
    # Each look rests on what the ones ahead of it have let by, so they stand in this order.
    if laying_fault(laying) is not None:
        return ("laying", 0)
    if not room_goes(laying, image[1], words, outside):
        return ("room", 0)
    fault = word_fault(laying, words + outside)
    if fault is None:
        fault = thing_fault(laying, outside)
    if fault is None:
        fault = worth_fault(laying, words, outside)
    return fault


def image_of(store):
    """The image of a store, with lists of its own."""
    return (own_laying(store.laying), store.room, store.words(), store.outside())


def opened(image):
    """The store that an image without a fault is of."""
    fault = image_fault(image)
    if fault is not None:
        raise Faulty(fault[0], fault[1])
    return store_of(image[0], image[1], image[2], image[3])


def alike(one, other):
    """Whether each register has alike worths in both stores."""
    outside = one.outside()
    beside = other.outside()
    # Which pair of the one goes with which of the other, and the other way round.
    there = {}
    back = {}
    waiting = list(zip(one.words(), other.words()))
    while waiting:
        words = waiting.pop()
        left = read_worth(one.laying, outside, words[0])
        right = read_worth(other.laying, beside, words[1])
        if not is_pair(left) or not is_pair(right):
            if left != right:
                return False
            continue
        if there.get(left[1], right[1]) != right[1] or back.get(right[1], left[1]) != left[1]:
            return False
        if left[1] not in there:
            there[left[1]] = right[1]
            back[right[1]] = left[1]
            waiting.extend(list(zip(pair_words_at(outside, left[1]), pair_words_at(beside, right[1]))))
    return True
