"""Point 10: numbers outside."""

import random
import unittest

from markwords.limbs import is_great, number_at, rows_of, size_at
from tests.laid import FULL, great, greatest, layings_of, limbs_for, row_for, smallest

LONG = [10 ** 59, 10 ** 60 - 1, 10 ** 1000 + 7, 10 ** 3999, 10 ** 4000 - 1]


def great_amounts(bits):
    """Amounts of one limb to some, at powers of the base, one more and less, with limbs of 0 between."""
    base = 2 ** bits
    amounts = [base // 2, base - 1]
    for power in (1, 2, 3, 7, 20):
        amounts += [base ** power - 1, base ** power, base ** power + 1, base ** power * (base - 1)]
        amounts += [base ** power * 5 + 3, base ** (power + 2) + base ** power, base ** (power + 1) - base]
    return amounts


def numbers_for(laying):
    """Numbers that are not small, of either sign."""
    numbers = [greatest(laying) + 1, greatest(laying) + 2, smallest(laying) - 1, smallest(laying) - 2]
    for amount in great_amounts(laying[0]):
        numbers += [amount, -amount]
    return [n for n in numbers if n > greatest(laying) or n < smallest(laying)]


class Rows(unittest.TestCase):
    def check(self, laying, n):
        row = rows_of(laying, n)
        self.assertEqual(row, row_for(laying, n), (laying, n))
        self.assertTrue(all(type(word) is int and 0 <= word < 2 ** laying[0] for word in row))
        self.assertNotEqual(row[-1], 0)
        self.assertEqual(number_at(laying, row, 0), n)
        self.assertEqual(size_at(row, 0), len(row))

    def test_numbers_of_either_sign(self):
        for bits in range(8, 33):
            for laying in layings_of(bits):
                for n in numbers_for(laying):
                    self.check(laying, n)

    def test_by_hand(self):
        laying = (8, list(FULL))
        for n, row in (
            (16, [4, 16]), (-17, [6, 17]), (255, [4, 255]), (-255, [6, 255]), (256, [8, 0, 1]), (-256, [10, 0, 1]),
            (257, [8, 1, 1]), (1000, [8, 232, 3]), (-65535, [10, 255, 255]), (65536, [12, 0, 0, 1]),
            (3 * 65536 + 2, [12, 2, 0, 3]),
        ):
            self.assertEqual(rows_of(laying, n), row)
            self.assertEqual(number_at(laying, row, 0), n)
        self.assertEqual(rows_of((32, list(FULL)), -(2 ** 64)), [14, 0, 0, 1])
        self.assertEqual(rows_of((13, list(FULL)), 2 ** 13 - 1), [4, 8191])

    def test_one_limb_to_some_hundred(self):
        chance = random.Random(10)
        for bits in (8, 9, 12, 13, 31, 32):
            laying = (bits, list(FULL))
            most = min(2 ** (bits - 2) - 1, 300)
            for count in [1, 2, 3, 4, 62, 63, 64, 126, 127, 128, 255, 256, 300]:
                if count <= most:
                    least, last = 2 ** (bits * (count - 1)), 2 ** (bits * count) - 1
                    for amount in (max(least, 2 ** (bits - 1)), last, chance.randint(max(least, 2 ** (bits - 1)), last)):
                        self.check(laying, amount)
                        self.check(laying, -amount)
                        self.assertEqual(len(rows_of(laying, amount)), count + 1)

    def test_numbers_of_four_thousand_figures(self):
        for bits in (13, 16, 20, 31, 32):
            laying = (bits, list(FULL))
            for n in LONG:
                self.check(laying, n)
                self.check(laying, -n)

    def test_the_laying_stays_and_the_list_is_new(self):
        laying = (8, list(FULL))
        one, other = rows_of(laying, 1000), rows_of(laying, 1000)
        self.assertEqual(laying, (8, FULL))
        self.assertIsNot(one, other)
        one.clear()
        self.assertEqual((other, rows_of(laying, 1000)), ([8, 232, 3], [8, 232, 3]))


class Places(unittest.TestCase):
    def test_rows_one_behind_another_with_pairs_between(self):
        chance = random.Random(11)
        for bits in (8, 9, 10, 13, 32):
            for laying in layings_of(bits):
                numbers = [n for n in numbers_for(laying) if not great(laying, n)]
                outside, places = [], []
                for turn in range(60):
                    if turn % 3 == 1:
                        places.append((len(outside), None))
                        outside += [1, chance.randrange(2 ** bits), chance.randrange(2 ** bits)]
                    else:
                        n = chance.choice(numbers)
                        places.append((len(outside), n))
                        outside += row_for(laying, n)
                # What stands behind the last thing is no affair of it.
                self.check_places(laying, outside, places)
                self.check_places(laying, outside + [0, 1, 4, 2 ** bits - 1], places)

    def check_places(self, laying, outside, places):
        kept = list(outside)
        for address, n in places:
            self.assertEqual(size_at(outside, address), 3 if n is None else len(limbs_for(laying, n)) + 1)
            if n is not None:
                self.assertEqual(number_at(laying, outside, address), n)
        self.assertEqual(outside, kept)

    def test_by_hand(self):
        laying = (8, list(FULL))
        outside = [4, 16, 1, 8, 12, 10, 0, 1, 6, 17, 8, 232, 3, 99]
        self.assertEqual([size_at(outside, address) for address in (0, 2, 5, 8, 10)], [2, 3, 3, 2, 3])
        self.assertEqual([number_at(laying, outside, address) for address in (0, 5, 8, 10)], [16, -256, -17, 1000])

    def test_heads_of_many_limbs(self):
        for count in (1, 2, 63, 64, 1000):
            self.assertEqual(size_at([4 * count], 0), count + 1)
            self.assertEqual(size_at([9, 9, 4 * count + 2], 2), count + 1)
        self.assertEqual(size_at([1], 0), 3)

    def test_far_behind_in_a_long_list(self):
        laying = (32, list(FULL))
        outside = [1, 7, 7] * 500 + row_for(laying, -(10 ** 4000 - 1)) + [1, 7, 7]
        self.assertEqual(number_at(laying, outside, 1500), -(10 ** 4000 - 1))
        self.assertEqual(size_at(outside, 1500), len(outside) - 1503)


class Great(unittest.TestCase):
    def test_as_many_limbs_as_a_head_can_tell_and_one_more(self):
        for bits in range(8, 13):
            for laying in layings_of(bits):
                most = 2 ** (bits - 2) - 1
                edge = 2 ** (bits * most)
                for n in (edge - 1, edge // 2 ** bits, 1 - edge, edge // 3):
                    self.assertIs(is_great(laying, n), False)
                    self.assertEqual(number_at(laying, rows_of(laying, n), 0), n)
                    self.assertEqual(rows_of(laying, n)[0], 4 * most + (2 if n < 0 else 0))
                for n in (edge, edge + 1, -edge, edge * 2 ** bits, -(edge ** 2)):
                    self.assertIs(is_great(laying, n), True)

    def test_few_limbs_are_not_great(self):
        for bits in range(8, 33):
            for laying in layings_of(bits):
                for n in numbers_for(laying) + [0, 1, -1]:
                    self.assertIs(is_great(laying, n), False)

    def test_four_thousand_figures(self):
        for bits in range(8, 33):
            for laying in layings_of(bits):
                for n in LONG[2:]:
                    self.assertIs(is_great(laying, n), great(laying, n))
                    self.assertIs(is_great(laying, -n), great(laying, n))
                    self.assertTrue(bits < 13 or not great(laying, n))
        self.assertIs(is_great((8, list(FULL)), 10 ** 3999), True)


if __name__ == "__main__":
    unittest.main()
