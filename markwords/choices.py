"""Layings chosen by the widths of their marks, or by weights for them."""

from markwords.layings import KINDS, bits_go, kinds_on, load_goes, width_goes

# Among the best layings there is always one without a wider mark.
WIDEST_OF_BEST = 4


def words_go(bits, widths):
    """Whether the words that marks of these widths take are together not more than all."""
    return sum([1 << (bits - width) for width in widths]) <= 1 << bits


def widths_go(bits, widths):
    """Whether there is a right laying with these widths."""
    if not bits_go(bits):
        return False
    for kind, width in zip(KINDS, widths):
        if not width_goes(bits, width) or not load_goes(bits, kind, width):
            return False
    return words_go(bits, widths)


def made(bits, widths):
    """A right laying with these widths, in the order small, far, pair, sign, one; None where there is none."""
    if not widths_go(bits, widths):
        return None
    marks = []
    # Narrow marks go first: no wider mark with a pattern that has none of them shares a word with them.
    for kind, width in sorted(zip(KINDS, widths), key=lambda chosen: chosen[1]):
        pattern = 0
        while kinds_on(marks, pattern):
            pattern += 1
        marks.append((kind, width, pattern))
    return (bits, marks)


def width_rows():
    """All rows of five widths that a best laying is looked for among."""
    rows = [[]]
    for kind in KINDS:
        longer = []
        for row in rows:
            for width in range(1, WIDEST_OF_BEST + 1):
                longer.append(row + [width])
        rows = longer
    return rows


def weighed(weights, widths):
    """The sum of each weight times its width."""
    return sum([weight * width for weight, width in zip(weights, widths)])


def best(bits, weights):
    """A right laying of these bits for which the sum of each weight times its width is the least."""
    going = [widths for widths in width_rows() if widths_go(bits, widths)]
    if not going:
        return None
    return made(bits, min(going, key=lambda widths: weighed(weights, widths)))
