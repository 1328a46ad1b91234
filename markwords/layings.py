"""Layings: which marks the words of a machine have, and whether a laying is right."""

KINDS = ("small", "far", "pair", "sign", "one")
LEAST_LOAD_BITS = {"small": 2, "far": 3, "pair": 3, "sign": 7, "one": 2}
FEWEST_BITS = 8
MOST_BITS = 32


def bits_go(bits):
    """Whether a laying may have so many bits."""
    return FEWEST_BITS <= bits <= MOST_BITS


def width_goes(bits, width):
    """Whether a mark may be so wide."""
    return 1 <= width <= bits - 1


def load_goes(bits, kind, width):
    """Whether the loads of a mark have bits enough for its kind."""
    return bits - width >= LEAST_LOAD_BITS[kind]


def marks_go(bits, marks):
    """Whether each mark's width and pattern are within their bounds."""
    for kind, width, pattern in marks:
        # The width goes first: by one out of bounds, 1 << width may be too great to be made, or fail.
        if not width_goes(bits, width) or not 0 <= pattern < 1 << width:
            return False
    return True


def has_form(laying):
    """Whether it is a laying at all, right or not."""
    bits = laying[0]
    marks = laying[1]
    if not bits_go(bits) or len(marks) != len(KINDS):
        return False
    if sorted([mark[0] for mark in marks]) != sorted(KINDS):
        return False
    return marks_go(bits, marks)


def kinds_on(marks, word):
    """The kinds of all marks that a word has."""
    return [kind for kind, width, pattern in marks if word % (1 << width) == pattern]


def least_double(marks):
    """The least word that has two marks, or None."""
    # The least word that two marks share is the wider one's pattern, so no other words need be looked at.
    doubles = [pattern for kind, width, pattern in marks if len(kinds_on(marks, pattern)) > 1]
    return min(doubles, default=None)


def laying_fault(laying):
    """None of a right laying, else ("form", None), ("two", word) or ("few", kind)."""
    if not has_form(laying):
        return ("form", None)
    bits = laying[0]
    marks = laying[1]
    double = least_double(marks)
    if double is not None:
        return ("two", double)
    for kind, width, pattern in marks:
        if not load_goes(bits, kind, width):
            return ("few", kind)
    return None


def mark_of(laying, word):
    """The kind of a word's mark, or None where it has no mark."""
    kinds = kinds_on(laying[1], word)
    return kinds[0] if kinds else None


def mark_for(laying, kind):
    """The mark of a kind, a tuple (kind, width, pattern)."""
    return [mark for mark in laying[1] if mark[0] == kind][0]


def load_bits(laying, kind):
    """How many bits the loads of a kind have."""
    return laying[0] - mark_for(laying, kind)[1]
