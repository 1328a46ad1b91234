"""Points 11 to 14: room, what is refused for want of it, and the sweep."""

import itertools
import unittest

from markwords.errors import NoRoom, WrongKind
from markwords.store import Store, store_of
from tests.laid import FULL, LEAN, TIGHT_FAR, TIGHT_PAIR, layings_of, load_bits, most_words, row_for, seen, word_for
from tests.worths import DEEDS_OF_TWO, REGISTERS, refusal


def far(laying, address):
    return word_for(laying, ("far", address))


def pair(laying, address):
    return word_for(laying, ("pair", address))


class Case(unittest.TestCase):
    def check(self, store, words, outside, counts):
        self.assertEqual(store.words(), words)
        self.assertEqual(store.outside(), outside)
        self.assertEqual((store.quick, store.slow, store.sweeps), counts)

    def check_no_room(self, store, name, *parts, swept):
        """Refused with NoRoom, and nothing changed but for a sweep, if one is wanted."""
        wanted = store_of(store.laying, store.room, store.words(), store.outside())
        if swept:
            wanted.sweep()
        counts = (store.quick, store.slow, store.sweeps + (1 if swept else 0))
        told = [store.told(q) for q in REGISTERS]
        refusal(self, NoRoom, getattr(store, name), *parts)
        self.check(store, wanted.words(), wanted.outside(), counts)
        self.assertEqual([store.told(q) for q in REGISTERS], told)


class Rooms(Case):
    def test_rooms_of_0_to_3(self):
        for laying in layings_of(8) + layings_of(32):
            n = 2 ** (laying[0] - 1)
            for room in range(4):
                store = Store(laying, room)
                store.number(0, 1)
                store.sign(1, 127)
                store.one(2, "yes")
                store.copy(3, 1)
                store.plus(4, 0, 0) if load_bits(laying, "small") > 2 else store.times(4, 0, 0)
                self.assertEqual((store.outside(), store.quick), ([], 1))
                if room < 2:
                    self.check_no_room(store, "number", 5, n, swept=True)
                else:
                    store.number(5, n)
                    self.assertEqual(store.outside(), [4, n])
                    store.one(5, "none")
                if room < 3:
                    self.check_no_room(store, "pair", 6, 0, 1, swept=True)
                else:
                    store.pair(6, 0, 1)
                    self.assertEqual(store.outside(), [1, word_for(laying, 1), word_for(laying, ("sign", 127))])
                    self.assertEqual(store.sweeps, 1)

    def test_just_enough_and_one_fewer(self):
        for bits in (8, 10, 13, 32):
            laying = (bits, list(FULL))
            for n in (2 ** (bits - 1), -(2 ** bits), 2 ** (bits * 3) + 1):
                size = len(row_for(laying, n))
                for many in (1, 2, 3):
                    exact = Store(laying, size * many)
                    fewer = Store(laying, size * many - 1)
                    for r in range(many - 1):
                        exact.number(r, n)
                        fewer.number(r, n)
                    exact.number(7, n)
                    self.assertEqual((exact.outside(), exact.sweeps), (row_for(laying, n) * many, 0))
                    self.check_no_room(fewer, "number", 7, n, swept=True)
            for many in (1, 2, 3):
                exact = Store(laying, 3 * many)
                fewer = Store(laying, 3 * many - 1)
                for r in range(many - 1):
                    exact.pair(r, r, r)
                    fewer.pair(r, r, r)
                exact.pair(7, 7, 7)
                self.assertEqual((len(exact.outside()), exact.sweeps), (3 * many, 0))
                self.check_no_room(fewer, "pair", 7, 7, 7, swept=True)

    def test_what_far_and_pair_loads_can_number(self):
        for marks, bits in itertools.product((TIGHT_FAR, TIGHT_PAIR, FULL), (8, 9, 10)):
            laying = (bits, list(marks))
            most = most_words(laying, 400)
            self.assertEqual(most, 2 ** min(load_bits(laying, "far"), load_bits(laying, "pair")))
            for room in (most - 1, most, most + 1, 400):
                self.fill(laying, room, min(most, room))

    def fill(self, laying, room, most):
        """Fills a store with a chain of pairs up to most words, then with numbers of two words."""
        store = Store(laying, room)
        while len(store.outside()) + 3 <= most:
            store.pair(0, 0, 0)
            self.assertEqual(store.words()[0], pair(laying, len(store.outside()) - 3))
        self.check_no_room(store, "pair", 0, 0, 0, swept=True)
        store = Store(laying, room)
        if most % 2 == 1:
            store.pair(7, 7, 7)
        while len(store.outside()) + 2 <= most:
            store.number(1, 2 ** (laying[0] - 1))
            store.pair(0, 0, 1) if len(store.outside()) + 5 <= most else store.copy(2 + len(store.outside()) % 2, 1)
        self.assertLessEqual(len(store.outside()), most)
        self.assertEqual(store.sweeps, 0)
        self.assertGreaterEqual(len(store.outside()), most - 1)

    def test_the_last_address_of_all(self):
        laying = (8, list(TIGHT_FAR))
        store = Store(laying, 400)
        store.pair(0, 0, 0)
        store.pair(0, 0, 0)
        store.number(1, 255)
        self.check(store, [pair(laying, 3), far(laying, 6)] + [7] * 6, [1, 7, 7, 1, 5, 5, 4, 255], (0, 0, 0))
        self.check_no_room(store, "number", 2, 255, swept=True)
        laying = (8, list(TIGHT_PAIR))
        store = Store(laying, 400)
        store.number(1, 255)
        store.pair(0, 0, 1)
        store.pair(0, 0, 1)
        self.check(store, [pair(laying, 5), far(laying, 0)] + [7] * 6, [4, 255, 1, 7, 3, 1, 95, 3], (0, 0, 0))
        self.check_no_room(store, "pair", 2, 0, 0, swept=True)

    def test_rooms_beyond_what_loads_number(self):
        store = Store((8, list(FULL)), 400)
        for turn in range(10):
            store.pair(0, 0, 0)
        store.number(1, 16)
        self.assertEqual((len(store.outside()), store.sweeps), (32, 0))
        self.check_no_room(store, "number", 2, 16, swept=True)


class Swept(Case):
    def test_a_thing_that_fits_behind_a_sweep(self):
        laying = (8, list(FULL))
        store = Store(laying, 6)
        store.number(0, 1000)
        store.number(1, 16)
        store.one(0, "yes")
        store.number(2, 256)
        self.check(store, [23, 3, 19, 7, 7, 7, 7, 7], [4, 16, 8, 0, 1], (0, 0, 1))
        store.number(1, 0)
        store.pair(3, 2, 1)
        self.check(store, [23, 1, 3, 29, 7, 7, 7, 7], [8, 0, 1, 1, 3, 1], (0, 0, 2))

    def test_a_pair_that_fits_behind_a_sweep_has_the_new_addresses(self):
        laying = (8, list(FULL))
        store = Store(laying, 7)
        store.number(0, 16)
        store.number(1, 17)
        store.number(2, 18)
        store.one(0, "no")
        store.pair(3, 1, 2)
        self.check(store, [15, 3, 19, 37, 7, 7, 7, 7], [4, 17, 4, 18, 1, 3, 19], (0, 0, 1))

    def test_registers_are_as_they_are_ahead_of_the_deed(self):
        # What r holds is still reached, though the deed would put something else there.
        laying = (8, list(FULL))
        store = Store(laying, 3)
        store.number(0, 1000)
        self.check_no_room(store, "number", 0, 16, swept=True)
        self.check_no_room(store, "pair", 0, 1, 1, swept=True)
        self.assertEqual((store.told(0), store.sweeps), (1000, 2))
        store.one(0, "none")
        store.number(0, 16)
        self.check(store, [3] + [7] * 7, [4, 16], (0, 0, 3))

    def test_deeds_of_two_numbers(self):
        laying = (8, list(FULL))
        for name, n, m in (("plus", 100, 100), ("less", -100, 100), ("times", 2, 100), ("over", 100, -1), ("rest", 100, 120)):
            wanted = DEEDS_OF_TWO[name](n, m)
            rows = [row_for(laying, x) for x in (n, m, wanted) if not -16 <= x <= 15]
            size = sum(map(len, rows))
            store = Store(laying, size)
            store.number(0, 200)
            store.one(0, "no")
            store.number(1, n)
            store.number(2, m)
            getattr(store, name)(3, 1, 2)
            self.assertEqual((store.outside(), store.told(3)), (sum(rows, []), wanted))
            self.assertEqual((store.quick, store.slow, store.sweeps), (0, 1, 1))
            store = Store(laying, size - 1)
            store.number(1, n)
            store.number(2, m)
            for r in (1, 2, 3):
                self.check_no_room(store, name, r, 1, 2, swept=True)
            self.assertEqual((store.quick, store.slow, store.sweeps), (0, 0, 3))

    def test_a_small_number_needs_no_room(self):
        store = Store((8, list(FULL)), 3)
        store.number(0, 1000)
        store.less(1, 0, 0)
        store.rest(2, 0, 0)
        store.over(3, 0, 0)
        store.less(0, 0, 0)
        self.assertEqual(([store.told(q) for q in range(4)], store.sweeps, store.slow), ([0, 0, 0, 1], 0, 4))

    def test_too_many_limbs_are_not_swept(self):
        for bits in (8, 9, 10):
            for laying in layings_of(bits):
                store = Store(laying, 400)
                store.number(0, 2 ** (bits - 1))
                store.one(0, "yes")
                edge = 2 ** (bits * (2 ** (bits - 2) - 1))
                for n in (edge, -edge, edge * 7):
                    self.check_no_room(store, "number", 1, n, swept=False)
                self.assertEqual(store.outside(), [4, 2 ** (bits - 1)])
                self.check_no_room(store, "number", 1, edge - 1, swept=True)
                self.assertEqual(store.outside(), [])

    def test_too_many_limbs_that_come_of_two(self):
        # 128 words may be outside, and a number may have 127 limbs.
        laying = (9, [("sign", 2, 0), ("far", 2, 1), ("pair", 2, 2), ("small", 3, 3), ("one", 3, 7)])
        for limbs, swept in ((120, False), (65, False), (64, False), (63, True)):
            store = Store(laying, 400)
            store.number(0, 2 ** 9)
            store.one(0, "no")
            store.number(1, -(2 ** (9 * limbs) - 1))
            self.check_no_room(store, "times", 2, 1, 1, swept=swept)
            self.check_no_room(store, "times", 1, 1, 1, swept=swept)
            refusal(self, WrongKind, store.times, 2, 1, 0)
            self.assertEqual((store.quick, store.slow), (0, 0))

    def test_asked_for(self):
        laying = (8, list(FULL))
        store = Store(laying, 400)
        self.assertIsNone(store.sweep())
        self.check(store, [7] * 8, [], (0, 0, 1))
        store.number(0, 16)
        store.number(0, 17)
        self.assertIsNone(store.sweep())
        self.check(store, [3] + [7] * 7, [4, 17], (0, 0, 2))
        store.sweep()
        self.check(store, [3] + [7] * 7, [4, 17], (0, 0, 3))
        store.number(0, 1)
        self.check(store, [9] + [7] * 7, [4, 17], (0, 0, 3))
        store.sweep()
        self.check(store, [9] + [7] * 7, [], (0, 0, 4))

    def test_limbs_are_no_words(self):
        # Limbs that look like addresses reach nothing and stay as they are.
        laying = (8, list(FULL))
        store = store_of(laying, 400, [3 + 8 * 2] + [7] * 7, [4, 99, 12, 3, 5, 13, 1, 7, 7, 4, 16])
        store.sweep()
        self.check(store, [3] + [7] * 7, [12, 3, 5, 13], (0, 0, 1))

    def test_order_and_addresses_follow(self):
        laying = (8, list(FULL))
        p, f = (lambda address: pair(laying, address)), (lambda address: far(laying, address))
        outside = [
            4, 99,          # 0, not reached
            1, p(13), f(11),    # 2, reached by the one at 13
            1, 7, p(2),     # 5, not reached, though it reaches
            1, p(8), 7,     # 8, reached by itself alone
            6, 200,         # 11, reached by several
            1, p(2), p(16),  # 13, reached by two registers and the one at 2
            1, f(11), 41,   # 16
            4, 50,          # 19, not reached
        ]
        store = store_of(laying, 400, [p(16), 7, p(13), f(11), p(13), 0, 254, 121], outside)
        store.sweep()
        self.check(
            store, [p(8), 7, p(5), f(3), p(5), 0, 254, 121],
            [1, p(5), f(3), 6, 200, 1, p(0), p(8), 1, f(3), 41], (0, 0, 1),
        )

    def test_rings(self):
        laying = (8, list(FULL))
        p = (lambda address: pair(laying, address))
        ring = [1, p(3), p(6), 1, p(6), p(0), 1, p(0), p(6)]
        behind = [1, p(7), p(10), 1, p(10), p(4), 1, p(4), p(10)]
        store = store_of(laying, 400, [7, p(6), 7, 7, 7, 7, 7, p(0)], ring)
        store.sweep()
        self.check(store, [7, p(6), 7, 7, 7, 7, 7, p(0)], ring, (0, 0, 1))
        store = store_of(laying, 400, [7, p(10), 7, 7, 7, 7, 7, 7], [4, 99, 4, 98] + behind + [1, p(13), p(4)])
        store.sweep()
        self.check(store, [7, p(6), 7, 7, 7, 7, 7, 7], ring, (0, 0, 1))
        store = store_of(laying, 400, [7] * 8, [1, p(0), p(3), 1, p(3), p(0)])
        store.sweep()
        self.check(store, [7] * 8, [], (0, 0, 1))

    def test_a_long_chain(self):
        for bits in (12, 32):
            laying = (bits, list(FULL))
            store = Store(laying, 400)
            for k in range(100):
                store.sign(1, k)
                store.pair(0, 1, 0)
            store.number(2, 2 ** 40)
            for k in range(30):
                store.second(0, 0)
            store.sweep()
            self.assertEqual(len(store.outside()), 3 * 70 + len(row_for(laying, 2 ** 40)))
            for k in reversed(range(70)):
                store.first(1, 0)
                self.assertEqual(store.told(1), ("sign", k))
                store.second(0, 0)
            self.assertEqual((store.told(0), store.told(2)), ("none", 2 ** 40))

    def test_only_registers_reach(self):
        laying = (8, list(FULL))
        for r in REGISTERS:
            store = Store(laying, 3)
            store.pair(r, r, r)
            store.sweep()
            self.assertEqual(store.outside(), [1, 7, 7])
            self.check_no_room(store, "pair", (r + 1) % 8, r, r, swept=True)
            store.sign(r, 5)
            store.pair(r, r, r)
            self.assertEqual((store.outside(), store.sweeps), ([1, 10, 10], 3))


if __name__ == "__main__":
    unittest.main()
