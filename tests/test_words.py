"""Points 4 and 9: what words stand for, and the words of worths."""

import unittest

from markwords.words import is_small, word_of, worth_of
from tests.laid import (
    FULL, KINDS, OPEN, greatest, layings_of, load_bits, smallest, stands_for, with_mark, word_for,
    worths_by_word,
)
from tests.worths import THREE

FAR_NUMBERS = [10 ** 59, 10 ** 60 - 1, 10 ** 3999, 10 ** 4000 - 1, 2 ** 13000]


def edge_loads(bits):
    """Loads of so many bits: 0, 1, around the signs and the three, around half of them, the last ones."""
    loads = [0, 1, 2, 3, 126, 127, 128, 129, 2 ** (bits - 1) - 1, 2 ** (bits - 1), 2 ** bits - 2, 2 ** bits - 1]
    return sorted({load for load in loads if load < 2 ** bits})


class Words(unittest.TestCase):
    def check(self, laying, word, worth):
        told = worth_of(laying, word)
        self.assertEqual(told, worth, (laying, word))
        self.assertIs(type(told), type(worth))
        if worth is not None:
            self.assertEqual(word_of(laying, worth), word, (laying, worth))

    def test_all_words_of_8_to_10_bits(self):
        for bits in (8, 9, 10):
            for laying in layings_of(bits):
                worths = worths_by_word(laying)
                for word in range(2 ** bits):
                    self.check(laying, word, worths.get(word))

    def test_each_worth_has_a_word_of_its_own(self):
        for bits in (8, 9, 10, 11):
            for laying in layings_of(bits):
                worths = list(range(smallest(laying), greatest(laying) + 1)) + THREE
                worths += [("sign", k) for k in range(128)]
                for kind in ("far", "pair"):
                    worths += [(kind, address) for address in range(2 ** load_bits(laying, kind))]
                words = [word_of(laying, worth) for worth in worths]
                self.assertEqual(len(set(words)), len(worths))
                self.assertEqual(words, [word_for(laying, worth) for worth in worths])
                self.assertTrue(all(0 <= word < 2 ** bits for word in words))
                self.assertEqual([worth_of(laying, word) for word in words], worths)

    def test_edge_loads_of_all_layings(self):
        for bits in range(8, 33):
            for laying in layings_of(bits):
                for kind in KINDS:
                    for load in edge_loads(load_bits(laying, kind)):
                        self.check(laying, with_mark(laying, kind, load), stands_for(laying, kind, load))

    def test_words_of_no_kind(self):
        for bits in range(9, 33):
            laying = (bits, list(FULL))
            for load in (128, 129, 2 ** (bits - 1) - 1):
                self.assertIsNone(worth_of(laying, with_mark(laying, "sign", load)))
            for load in (3, 4, 2 ** (bits - 3) - 1):
                self.assertIsNone(worth_of(laying, with_mark(laying, "one", load)))

    def test_words_without_a_mark(self):
        for bits in range(8, 33):
            laying = (bits, list(OPEN))
            for word in (7, 13, 15, 23, 2 ** bits - 1):
                self.assertIsNone(worth_of(laying, word))

    def test_by_hand(self):
        laying = (8, list(FULL))
        for word, worth in (
            (0, ("sign", 0)), (254, ("sign", 127)), (1, 0), (9, 1), (121, 15), (129, -16), (249, -1),
            (3, ("far", 0)), (251, ("far", 31)), (5, ("pair", 0)), (253, ("pair", 31)),
            (7, "none"), (15, "no"), (23, "yes"), (31, None), (255, None),
        ):
            self.check(laying, word, worth)
        self.check((32, list(FULL)), 2 ** 32 - 7, -1)
        self.check((32, list(FULL)), 256, None)

    def test_the_laying_stays_and_is_read_as_it_is_then(self):
        laying = (9, list(FULL))
        worth_of(laying, 1)
        word_of(laying, ("far", 3))
        is_small(laying, 5)
        self.assertEqual(laying, (9, FULL))
        self.assertEqual((worth_of(laying, 3), word_of(laying, "no"), is_small(laying, 32)), (("far", 0), 15, False))
        laying[1][:] = [("small", 2, 3), ("far", 3, 6), ("pair", 3, 2), ("sign", 2, 1), ("one", 2, 0)]
        self.assertEqual((worth_of(laying, 3), word_of(laying, "no"), is_small(laying, 32)), (0, 4, True))


class Small(unittest.TestCase):
    def test_the_edges_of_what_is_small(self):
        for bits in range(8, 33):
            for laying in layings_of(bits):
                s = load_bits(laying, "small")
                for n, wanted in (
                    (0, True), (1, True), (-1, True), (2 ** (s - 1) - 1, True), (-(2 ** (s - 1)), True),
                    (2 ** (s - 1), False), (-(2 ** (s - 1)) - 1, False), (2 ** s - 1, False), (2 ** s, False),
                    (-(2 ** s), False), (2 ** bits, False), (2 ** bits + 1, False), (-(2 ** bits) - 1, False),
                ):
                    self.assertIs(is_small(laying, n), wanted, (laying, n))

    def test_just_the_numbers_that_words_stand_for(self):
        for bits in (8, 9, 10):
            for laying in layings_of(bits):
                numbers = {worth for worth in worths_by_word(laying).values() if isinstance(worth, int)}
                for n in range(-(2 ** bits) - 2, 2 ** bits + 3):
                    self.assertIs(is_small(laying, n), n in numbers)

    def test_numbers_of_many_figures(self):
        for bits in range(8, 33):
            for laying in layings_of(bits):
                for n in FAR_NUMBERS:
                    self.assertIs(is_small(laying, n), False)
                    self.assertIs(is_small(laying, -n), False)

    def test_by_hand(self):
        laying = (8, list(FULL))
        self.assertEqual([n for n in range(-300, 300) if is_small(laying, n)], list(range(-16, 16)))


if __name__ == "__main__":
    unittest.main()
