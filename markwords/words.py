"""What words stand for under a right laying, and the words of worths."""

from markwords.layings import load_bits, mark_for, mark_of

THREE = ("none", "no", "yes")
SIGNS = 128


def load_of(laying, word, kind):
    """The load of a word that has the mark of a kind."""
    return word >> mark_for(laying, kind)[1]


def marked(laying, kind, load):
    """The word with the mark of a kind and a load."""
    mark = mark_for(laying, kind)
    return (load << mark[1]) + mark[2]


def small_of(bits, load):
    """The number that a load of so many bits is."""
    return load - (1 << bits) if load >= 1 << (bits - 1) else load


def worth_of(laying, word):
    """What a word stands for; of a far number or a pair its kind and address; None of a word of no kind."""
    kind = mark_of(laying, word)
    if kind is None:
        return None
    load = load_of(laying, word, kind)
    if kind == "small":
        return small_of(load_bits(laying, kind), load)
    if kind == "one":
        return THREE[load] if load < len(THREE) else None
    if kind == "sign" and load >= SIGNS:
        return None
    return (kind, load)


def word_of(laying, worth):
    """The word of a small number, a sign, one of the three, ("far", address) or ("pair", address)."""
    if isinstance(worth, int):
        return marked(laying, "small", worth % (1 << load_bits(laying, "small")))
    if isinstance(worth, str):
        return marked(laying, "one", THREE.index(worth))
    return marked(laying, worth[0], worth[1])


def is_small(laying, n):
    """Whether a number is small enough to be kept in a word."""
    half = 1 << (load_bits(laying, "small") - 1)
    return -half <= n < half


def address_of(laying, word):
    """The address that a word has, or None where it has none."""
    kind = mark_of(laying, word)
    return load_of(laying, word, kind) if kind in ("far", "pair") else None
