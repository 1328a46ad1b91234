"""Point 8: layings that are chosen by widths and by weights."""

import itertools
import random
import unittest
from fractions import Fraction

from markwords.choices import best, made
from markwords.layings import laying_fault
from tests.laid import LEAST, is_right, widths_of


def goes(bits, widths):
    """The point's words: bits enough, and together not more than all words."""
    if any(bits - width < least for width, least in zip(widths, LEAST)):
        return False
    return sum(Fraction(1, 2 ** width) for width in widths) <= 1


def is_laid(taken, widths):
    """Whether marks of these widths find patterns, found by trying all of them."""
    if not widths:
        return True
    for pattern in range(2 ** widths[0]):
        apart = all(pattern % 2 ** min(width, widths[0]) != other % 2 ** min(width, widths[0]) for width, other in taken)
        if apart and is_laid(taken + [(widths[0], pattern)], widths[1:]):
            return True
    return False


class Case(unittest.TestCase):
    def check_laying(self, laying, bits):
        self.assertIs(type(laying), tuple)
        self.assertEqual(len(laying), 2)
        self.assertEqual(laying[0], bits)
        self.assertIs(type(laying[1]), list)
        for mark in laying[1]:
            self.assertIs(type(mark), tuple)
        self.assertTrue(is_right(laying), laying)
        self.assertIsNone(laying_fault(laying))


class Made(Case):
    def check(self, bits, widths):
        told = made(bits, list(widths))
        if goes(bits, widths):
            self.assertIsNotNone(told, (bits, widths))
            self.check_laying(told, bits)
            self.assertEqual(widths_of(told), list(widths))
        else:
            self.assertIsNone(told, (bits, widths))

    def test_all_narrow_widths(self):
        for bits in (8, 9, 10, 11, 32):
            for widths in itertools.product(range(1, 6), repeat=5):
                self.check(bits, widths)

    def test_just_where_a_search_finds_patterns(self):
        for widths in itertools.product(range(1, 5), repeat=5):
            self.assertEqual(made(32, list(widths)) is not None, is_laid([], list(widths)), widths)

    def test_that_just_goes_and_just_does_not(self):
        for row in ((1, 2, 3, 4, 4), (1, 3, 3, 3, 3), (2, 2, 2, 3, 3)):
            for widths in set(itertools.permutations(row)):
                for bits in (11, 16, 32):
                    self.check_laying(made(bits, list(widths)), bits)
                    for place in range(5):
                        narrower = list(widths)
                        narrower[place] -= 1
                        if narrower[place] > 0:
                            self.assertIsNone(made(bits, narrower))

    def test_a_load_at_its_least_bits_and_one_fewer(self):
        for bits in range(11, 33):
            for place in range(5):
                widths = [3] * 5
                widths[place] = bits - LEAST[place]
                told = made(bits, widths)
                self.check_laying(told, bits)
                self.assertEqual(widths_of(told), widths)
                for width in range(widths[place] + 1, 41):
                    widths[place] = width
                    self.assertIsNone(made(bits, widths))

    def test_all_loads_at_their_least_bits(self):
        for bits in range(8, 33):
            self.check(bits, [bits - least for least in LEAST])

    def test_widths_to_40(self):
        chance = random.Random(40)
        for bits in range(8, 33):
            for turn in range(300):
                widest = (6, 12, bits, 40)[turn % 4]
                self.check(bits, [chance.randint(1, widest) for place in range(5)])
            for width in range(1, 41):
                self.check(bits, [width] * 5)
                self.check(bits, [3, 3, 3, 1, width])

    def test_wide_marks_are_told_soon(self):
        for widths in ([30, 29, 29, 25, 30], [1, 2, 3, 25, 30], [30, 4, 3, 2, 1]):
            self.check(32, widths)

    def test_by_hand(self):
        self.assertIsNotNone(made(8, [3, 3, 3, 1, 3]))
        self.assertIsNone(made(8, [3, 3, 3, 2, 3]))
        self.assertIsNone(made(8, [1, 3, 3, 1, 3]))
        self.assertIsNotNone(made(8, [6, 5, 5, 1, 6]))
        self.assertIsNone(made(8, [7, 5, 5, 1, 6]))
        self.assertIsNone(made(8, [6, 6, 5, 1, 6]))
        self.assertIsNone(made(8, [6, 5, 6, 1, 6]))
        self.assertIsNone(made(8, [6, 5, 5, 1, 7]))
        self.assertIsNone(made(32, [40, 40, 40, 40, 40]))

    def test_there_is_no_right_laying_of_other_bits_or_widths(self):
        for bits in (0, 7, 33, 40):
            self.assertIsNone(made(bits, [3, 3, 3, 1, 3]))
            self.assertIsNone(made(bits, [4, 4, 4, 4, 4]))
        for width in (0, -1, 41, 64):
            for place in range(5):
                widths = [3] * 5
                widths[place] = width
                self.assertIsNone(made(16, widths))

    def test_the_widths_stay(self):
        for widths in ([4, 3, 2, 1, 4], [3, 3, 3, 3, 3], [1, 1, 1, 1, 1], [40, 1, 2, 3, 4]):
            kept = list(widths)
            made(16, widths)
            self.assertEqual(widths, kept)

    def test_told_lists_are_new_ones(self):
        widths = [4, 3, 2, 1, 4]
        one, other = made(16, widths), made(16, widths)
        self.assertIsNot(one[1], other[1])
        self.assertIsNot(one[1], widths)
        other[1].clear()
        self.check_laying(one, 16)
        one[1].append(("small", 1, 0))
        third = made(16, widths)
        self.check_laying(third, 16)
        self.assertEqual(widths_of(third), widths)
        widths[0] = 40
        self.assertEqual(widths_of(third), [4, 3, 2, 1, 4])


class Best(Case):
    WEIGHTS = [
        [0, 0, 0, 0, 0], [1, 1, 1, 1, 1], [7, 7, 7, 7, 7], [5, 4, 3, 2, 1], [1, 2, 3, 4, 5], [3, 1, 4, 1, 5],
        [1, 0, 0, 0, 0], [0, 1, 0, 0, 0], [0, 0, 1, 0, 0], [0, 0, 0, 1, 0], [0, 0, 0, 0, 1],
        [1000, 1, 1, 1, 1], [1, 1000, 1, 1, 1], [1, 1, 1000, 1, 1], [1, 1, 1, 1000, 1], [1, 1, 1, 1, 1000],
        [16, 8, 4, 2, 1], [1, 2, 4, 8, 16], [0, 1, 1, 2, 3], [2, 2, 1, 1, 1], [10, 9, 1, 1, 1],
        [10 ** 60 - 1, 10 ** 59, 10 ** 60 - 1, 3, 0], [10 ** 60 - 1] * 5,
        [10 ** 59, 10 ** 59 + 1, 10 ** 59 + 2, 10 ** 59 + 3, 2 * 10 ** 59],
        [10 ** 59 + 1, 2 * 10 ** 59, 4 * 10 ** 59, 8 * 10 ** 59 + 1, 10 ** 59],
    ]

    def going(self, bits, widest):
        return [widths for widths in itertools.product(range(1, widest + 1), repeat=5) if goes(bits, widths)]

    def check(self, bits, weights, going):
        told = best(bits, list(weights))
        self.check_laying(told, bits)
        least = min(sum(weight * width for weight, width in zip(weights, widths)) for widths in going)
        self.assertEqual(sum(weight * width for weight, width in zip(weights, widths_of(told))), least, (bits, weights))

    def test_against_all_widths_from_1_to_4(self):
        for bits in range(8, 33):
            going = self.going(bits, 4)
            for weights in self.WEIGHTS:
                self.check(bits, weights, going)

    def test_against_all_widths_from_1_to_6(self):
        for bits in (8, 9, 10, 13, 32):
            going = self.going(bits, 6)
            for weights in self.WEIGHTS:
                self.check(bits, weights, going)

    def test_weights_by_chance(self):
        chance = random.Random(5)
        for bits in (8, 9, 10, 11, 20):
            going = self.going(bits, 4)
            for turn in range(60):
                most = (2, 9, 100, 10 ** 60 - 1)[turn % 4]
                self.check(bits, [chance.randint(0, most) for place in range(5)], going)

    def test_by_hand(self):
        self.assertEqual(widths_of(best(8, [0, 0, 0, 0, 0]))[3], 1)
        self.assertEqual(widths_of(best(8, [1, 1, 1, 1, 1])), [3, 3, 3, 1, 3])
        self.assertEqual(widths_of(best(32, [100, 1, 1, 1, 1])), [1, 3, 3, 3, 3])
        self.assertEqual(sorted(widths_of(best(32, [1, 1, 1, 1, 1]))), [2, 2, 2, 3, 3])
        self.assertEqual(widths_of(best(8, [100, 10, 1, 0, 1]))[:2], [2, 3])

    def test_the_weights_stay(self):
        for weights in self.WEIGHTS:
            handed = list(weights)
            best(12, handed)
            self.assertEqual(handed, weights)

    def test_one_as_good_is_told_behind_a_change_of_what_was_told(self):
        for bits in (8, 12, 32):
            going = self.going(bits, 4)
            for weights in self.WEIGHTS:
                told = best(bits, weights)
                told[1].reverse()
                told[1].pop()
                told[1].append(("small", 1, 0))
                again = best(bits, weights)
                self.assertIsNot(told[1], again[1])
                self.check(bits, weights, going)
                self.check_laying(again, bits)

    def test_there_is_none_of_other_bits(self):
        for bits in (0, 7, 33):
            self.assertIsNone(best(bits, [1, 1, 1, 1, 1]))


if __name__ == "__main__":
    unittest.main()
