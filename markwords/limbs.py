"""Numbers outside, by a head and limbs, and how many words a thing has."""

PAIR_HEAD = 1
PAIR_SIZE = 3


def limb_count(laying, n):
    """How many limbs a number's amount has."""
    bits = laying[0]
    return (abs(n).bit_length() + bits - 1) // bits


def rows_of(laying, n):
    """The words of a number outside: its head, and behind it its limbs, the least first."""
    bits = laying[0]
    count = limb_count(laying, n)
    words = [4 * count + (2 if n < 0 else 0)]
    left = abs(n)
    for limb in range(count):
        words.append(left % (1 << bits))
        left = left >> bits
    return words


def size_at(outside, address):
    """How many words the thing at an address has."""
    head = outside[address]
    return PAIR_SIZE if head == PAIR_HEAD else head // 4 + 1


def number_at(laying, outside, address):
    """The number whose head is at an address."""
    amount = 0
    for limb in reversed(outside[address + 1:address + size_at(outside, address)]):
        amount = (amount << laying[0]) + limb
    return amount if outside[address] % 4 == 0 else -amount


def is_great(laying, n):
    """Whether a number has more limbs than a head can tell."""
    return limb_count(laying, n) >= 1 << (laying[0] - 2)
