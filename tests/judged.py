"""The faults of images, and whether stores are alike, as the document tells them, written without the program."""

from tests.laid import FULL, is_right, most_words, small, stands_for


def P(address):
    return 8 * address + 5


def F(address):
    return 8 * address + 3


# Under FULL with 8 bits: heads at 0, 2, 5, 8, so at the places 8, 10, 13, 16; the pairs' words at 11, 12, 17, 18.
WORDS = [F(0), P(2), 7, 15, 41, 254, P(8), F(5)]
OUTSIDE = [4, 16, 1, P(2), F(5), 10, 0, 1, 1, 7, P(8)]


def image(words=WORDS, outside=OUTSIDE, room=400, laying=(8, FULL)):
    return ((laying[0], list(laying[1])), room, list(words), list(outside))


def read_word(laying, word):
    """What a word stands for, or None."""
    for kind, width, pattern in laying[1]:
        if word % 2 ** width == pattern:
            return stands_for(laying, kind, word // 2 ** width)
    return None


def amount_of(laying, limbs):
    return sum(limb * 2 ** (laying[0] * place) for place, limb in enumerate(limbs))


def things_of(laying, outside):
    """A dict of the things by their addresses; then the fault of the first that has one, or None."""
    things, at = {}, 0
    heads = {1: ("pair", 2, 1)}
    heads.update({4 * count + more: ("far", count, 1 - more) for count in range(1, len(outside) + 1) for more in (0, 2)})
    while at < len(outside):
        head, rest = outside[at], outside[at + 1:]
        if head not in heads:
            # A head that tells of more limbs than there are words at all is one too, but its thing has no end.
            return things, ("end" if head > 3 and head % 2 == 0 else "head", at + 8)
        kind, count, sign = heads[head]
        if len(rest) < count:
            return things, ("end", at + 8)
        things[at] = (kind, rest[:count])
        if kind == "far" and rest[count - 1] == 0:
            return things, ("limb", at + 8)
        if kind == "far" and small(laying, sign * amount_of(laying, rest[:count])):
            return things, ("small", at + 8)
        at += count + 1
    return things, None


def fault_of(image):
    """The first fault of an image."""
    laying, room, words, outside = image
    if not is_right(laying):
        return ("laying", 0)
    if room not in range(401) or len(words) != 8 or len(outside) > most_words(laying, room):
        return ("room", 0)
    for k, word in enumerate(words + outside):
        if word not in range(2 ** laying[0]):
            return ("word", k)
    things, fault = things_of(laying, outside)
    if fault:
        return fault
    asked = list(enumerate(words))
    for at, (kind, rest) in things.items():
        if kind == "pair":
            asked += [(at + 9, rest[0]), (at + 10, rest[1])]
    for k, word in asked:
        worth = read_word(laying, word)
        if worth is None:
            return ("kind", k)
        if isinstance(worth, tuple) and worth[0] != "sign":
            if worth[1] not in things or things[worth[1]][0] != worth[0]:
                return ("address", k)
    return None


def drawn(store):
    """What a store's registers hold, its pairs numbered as they are met: alike stores, and no others, are drawn alike."""
    laying, outside = store.laying, store.outside()
    numbered, queue, rows = {}, [], []

    def drawn_word(word):
        worth = read_word(laying, word)
        if isinstance(worth, tuple) and worth[0] == "far":
            count = outside[worth[1]] // 4
            amount = amount_of(laying, outside[worth[1] + 1:worth[1] + 1 + count])
            return -amount if outside[worth[1]] % 4 == 2 else amount
        if isinstance(worth, tuple) and worth[0] == "pair":
            if worth[1] not in numbered:
                numbered[worth[1]] = len(numbered)
                queue.append(worth[1])
            return ("pair", numbered[worth[1]])
        return worth

    rows.append([drawn_word(word) for word in store.words()])
    for address in queue:
        rows.append([drawn_word(word) for word in outside[address + 1:address + 3]])
    return rows
