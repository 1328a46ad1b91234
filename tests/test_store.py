"""Points 2, 5, 6, 11 and 14: the deeds of a store, by its words, its outside and its counts behind them."""

import itertools
import unittest

from markwords.errors import NoRoom, Nought, WrongKind
from markwords.store import Store
from tests.laid import FULL, OPEN, greatest, layings_of, row_for, seen, small, smallest, word_for
from tests.worths import DEEDS_OF_TWO, KINDS, NUMBERS, REGISTERS, THREE, look, put, refusal

WITH_ROOM = [laying for bits in (13, 16, 24, 32) for laying in layings_of(bits)]


def eight():
    """A store of 8 bits by hand: numbers from -16 to 15 are small, "none", "no", "yes" are 7, 15, 23."""
    return Store((8, list(FULL)), 400)


class Case(unittest.TestCase):
    def check(self, store, words, outside, counts=(0, 0, 0)):
        self.assertEqual(store.words(), words)
        self.assertEqual(store.outside(), outside)
        self.assertEqual((store.quick, store.slow, store.sweeps), counts)


class AtFirst(Case):
    def test_each_register_holds_none_and_nothing_is_outside(self):
        for bits in range(8, 33):
            for laying in layings_of(bits):
                for room in (0, 1, 3, 399, 400):
                    store = Store(laying, room)
                    self.check(store, [word_for(laying, "none")] * 8, [])
                    self.assertEqual((store.laying, store.room), (laying, room))
                    self.assertIs(type(store.laying), tuple)
                    self.assertEqual(look(store), (["none"] * 8, ["one"] * 8, [[True] * 8] * 8))

    def test_by_hand(self):
        self.check(eight(), [7] * 8, [])
        self.check(Store((8, list(OPEN)), 9), [3] * 8, [])


class ByHand(Case):
    def test_what_is_kept_in_words(self):
        store = eight()
        self.assertIsNone(store.number(0, 5))
        self.assertIsNone(store.number(1, -1))
        self.assertIsNone(store.number(2, 15))
        self.assertIsNone(store.number(3, -16))
        self.assertIsNone(store.sign(4, 127))
        self.assertIsNone(store.sign(5, 0))
        self.assertIsNone(store.one(6, "no"))
        self.assertIsNone(store.one(7, "yes"))
        self.check(store, [41, 249, 121, 129, 254, 0, 15, 23], [])
        store.one(7, "none")
        self.check(store, [41, 249, 121, 129, 254, 0, 15, 7], [])

    def test_what_is_kept_outside(self):
        store = eight()
        self.assertIsNone(store.number(2, 16))
        self.check(store, [7, 7, 3, 7, 7, 7, 7, 7], [4, 16])
        store.number(3, -17)
        self.check(store, [7, 7, 3, 19, 7, 7, 7, 7], [4, 16, 6, 17])
        store.number(4, 1000)
        self.check(store, [7, 7, 3, 19, 35, 7, 7, 7], [4, 16, 6, 17, 8, 232, 3])
        store.number(0, 5)
        self.assertIsNone(store.pair(5, 0, 3))
        self.check(store, [41, 7, 3, 19, 35, 61, 7, 7], [4, 16, 6, 17, 8, 232, 3, 1, 41, 19])
        store.pair(5, 5, 5)
        self.check(store, [41, 7, 3, 19, 35, 85, 7, 7], [4, 16, 6, 17, 8, 232, 3, 1, 41, 19, 1, 61, 61])

    def test_a_word_is_copied_as_it_is(self):
        store = eight()
        store.number(1, 1000)
        store.pair(2, 1, 0)
        words, outside = store.words(), store.outside()
        for r, q in itertools.product(REGISTERS, repeat=2):
            self.assertIsNone(store.copy(r, q))
            words[r] = words[q]
            self.check(store, words, outside)
        store.number(6, 1000)
        store.copy(5, 6)
        self.assertEqual(store.words()[5], store.words()[6])
        self.assertEqual(len(store.outside()), len(outside) + 3)

    def test_parts_of_pairs_are_words_as_they_are(self):
        store = eight()
        store.number(0, 1000)
        store.sign(1, 3)
        store.pair(2, 0, 1)
        self.check(store, [3, 6, 29, 7, 7, 7, 7, 7], [8, 232, 3, 1, 3, 6])
        self.assertIsNone(store.first(3, 2))
        self.assertIsNone(store.second(4, 2))
        self.check(store, [3, 6, 29, 3, 6, 7, 7, 7], [8, 232, 3, 1, 3, 6])
        self.assertIsNone(store.set_first(2, 5))
        self.check(store, [3, 6, 29, 3, 6, 7, 7, 7], [8, 232, 3, 1, 7, 6])
        self.assertIsNone(store.set_second(2, 2))
        self.check(store, [3, 6, 29, 3, 6, 7, 7, 7], [8, 232, 3, 1, 7, 29])
        store.second(2, 2)
        self.check(store, [3, 6, 29, 3, 6, 7, 7, 7], [8, 232, 3, 1, 7, 29])
        store.first(2, 2)
        self.check(store, [3, 6, 7, 3, 6, 7, 7, 7], [8, 232, 3, 1, 7, 29])

    def test_numbers_that_come_of_two(self):
        store = eight()
        store.number(0, 10)
        store.number(1, 6)
        store.plus(2, 0, 1)
        self.check(store, [81, 49, 3, 7, 7, 7, 7, 7], [4, 16], (0, 1, 0))
        store.less(3, 0, 1)
        self.check(store, [81, 49, 3, 33, 7, 7, 7, 7], [4, 16], (1, 1, 0))
        store.less(2, 2, 1)
        self.check(store, [81, 49, 81, 33, 7, 7, 7, 7], [4, 16], (1, 2, 0))
        store.times(0, 0, 0)
        self.check(store, [3 + 8 * 2, 49, 81, 33, 7, 7, 7, 7], [4, 16, 4, 100], (1, 3, 0))
        store.over(0, 0, 1)
        self.check(store, [3 + 8 * 4, 49, 81, 33, 7, 7, 7, 7], [4, 16, 4, 100, 4, 16], (1, 4, 0))
        store.rest(0, 0, 1)
        self.check(store, [33, 49, 81, 33, 7, 7, 7, 7], [4, 16, 4, 100, 4, 16], (1, 5, 0))
        store.rest(0, 1, 3)
        self.check(store, [17, 49, 81, 33, 7, 7, 7, 7], [4, 16, 4, 100, 4, 16], (2, 5, 0))

    def test_what_is_only_asked_changes_nothing(self):
        store = eight()
        store.number(0, 1000)
        store.number(1, 1000)
        store.pair(2, 0, 1)
        store.copy(3, 2)
        before = seen(store)
        for q, p in itertools.product(REGISTERS, repeat=2):
            store.same(q, p)
            store.kind(q)
            store.told(p)
        store.below(0, 1)
        self.assertEqual(seen(store), before)

    def test_lists_told_are_the_asker_s_own(self):
        store = eight()
        store.number(0, 1000)
        words, outside = store.words(), store.outside()
        self.assertIsNot(words, store.words())
        self.assertIsNot(outside, store.outside())
        words[0] = 99
        outside.clear()
        self.check(store, [3] + [7] * 7, [8, 232, 3])
        store.sign(1, 2)
        store.number(2, 16)
        self.assertEqual((words, outside), ([99] + [7] * 7, []))


class TwoNumbers(Case):
    def held(self, laying, n, m):
        store = Store(laying, 400)
        store.number(3, n)
        store.number(5, m)
        return store

    def check_two(self, laying, name, n, m):
        wanted = DEEDS_OF_TWO[name](n, m)
        in_words = all(small(laying, number) for number in (n, m, wanted))
        for r in (0, 3, 5):
            store = self.held(laying, n, m)
            before = seen(store)
            self.assertIsNone(getattr(store, name)(r, 3, 5))
            self.assertTrue(store.told(r) == wanted, (laying, name, n, m))
            self.assertIs(type(store.told(r)), int)
            words, outside = before["words"], before["outside"]
            if small(laying, wanted):
                words[r] = word_for(laying, wanted)
            else:
                words[r] = word_for(laying, ("far", len(outside)))
                outside = outside + row_for(laying, wanted)
            self.check(store, words, outside, (1, 0, 0) if in_words else (0, 1, 0))

    def test_small_and_great_ones(self):
        for laying in layings_of(9) + layings_of(13) + layings_of(32):
            edges = [greatest(laying), greatest(laying) + 1, smallest(laying), smallest(laying) - 1]
            numbers = [0, 1, -1, 2, -2] + edges + [2 ** laying[0] - 1, 2 ** laying[0], -(2 ** laying[0]) - 1]
            for n, m in itertools.product(numbers, repeat=2):
                for name in DEEDS_OF_TWO:
                    if m != 0 or name not in ("over", "rest"):
                        self.check_two_with_room(laying, name, n, m)

    def check_two_with_room(self, laying, name, n, m):
        sizes = [0 if small(laying, x) else len(row_for(laying, x)) for x in (n, m, DEEDS_OF_TWO[name](n, m))]
        if sum(sizes) <= 8:
            self.check_two(laying, name, n, m)

    def test_many_numbers(self):
        for laying in (WITH_ROOM[0], WITH_ROOM[5], WITH_ROOM[-1]):
            for n in NUMBERS[::3]:
                for m in NUMBERS[1::4]:
                    for name in DEEDS_OF_TWO:
                        if m != 0 or name not in ("over", "rest"):
                            self.check_two(laying, name, n, m)

    def test_any_registers(self):
        worths = [10 ** 59, -3, 7, 2 ** 31, -(2 ** 64), 1, -128, 12]
        for laying in (WITH_ROOM[1], WITH_ROOM[-2]):
            for r, q, p in itertools.product(REGISTERS, repeat=3):
                for name, wanted in DEEDS_OF_TWO.items():
                    store = Store(laying, 400)
                    for place, n in enumerate(worths):
                        store.number(place, n)
                    getattr(store, name)(r, q, p)
                    told = worths[:r] + [wanted(worths[q], worths[p])] + worths[r + 1:]
                    self.assertEqual([store.told(place) for place in REGISTERS], told, (name, r, q, p))
                    self.assertEqual(store.quick + store.slow, 1)

    def test_one_that_is_great_makes_it_slow(self):
        laying = (8, list(FULL))
        for name, n, m, quick in (
            ("plus", 7, 8, True), ("plus", 8, 8, False), ("plus", 16, -1, False), ("plus", -1, 16, False),
            ("less", 1, 17, False), ("less", -16, -16, True), ("times", 0, 99, False), ("times", 4, -4, True),
            ("times", 4, 4, False), ("over", -16, -1, False), ("over", 15, 2, True), ("over", 5, 100, False),
            ("over", 100, 50, False), ("rest", 100, 7, False), ("rest", 7, 100, False), ("rest", -15, 4, True),
        ):
            store = self.held(laying, n, m)
            getattr(store, name)(0, 3, 5)
            self.assertEqual((store.quick, store.slow), (1, 0) if quick else (0, 1), (name, n, m))

    def test_other_deeds_are_not_counted(self):
        store = eight()
        store.number(0, 1000)
        store.number(1, 1)
        store.sign(2, 1)
        store.one(3, "yes")
        store.copy(4, 0)
        store.pair(5, 0, 1)
        store.first(6, 5)
        store.second(7, 5)
        store.set_first(5, 5)
        store.set_second(5, 5)
        store.below(0, 1)
        store.same(0, 4)
        self.assertEqual((store.quick, store.slow, store.sweeps), (0, 0, 0))

    def test_numbers_grow_as_far_as_they_need(self):
        for bits in (16, 32):
            store = Store((bits, list(FULL)), 400)
            wanted = 10 ** 60 - 1
            store.number(0, wanted)
            for turn in range(4):
                store.times(0, 0, 0)
                wanted = wanted * wanted
            self.assertTrue(store.told(0) == wanted)
            self.assertEqual((store.quick, store.slow), (0, 4))


class Asked(Case):
    def test_below_same_kind_told_of_numbers(self):
        for laying in (WITH_ROOM[0], WITH_ROOM[3], WITH_ROOM[-1]):
            for n in NUMBERS:
                for m in NUMBERS[::2]:
                    store = Store(laying, 400)
                    store.number(1, n)
                    store.number(6, m)
                    self.assertIs(store.below(1, 6), n < m)
                    self.assertIs(store.below(6, 1), m < n)
                    self.assertIs(store.below(1, 1), False)
                    self.assertIs(store.same(1, 6), n == m)
                    self.assertIs(store.same(6, 6), True)
                    self.assertEqual((store.told(1), store.told(6)), (n, m))
                    self.assertEqual((store.kind(1), store.kind(6)), ("number", "number"))

    def test_alike_great_numbers_are_the_same_wherever_they_stand(self):
        store = eight()
        store.number(0, 1000)
        store.number(1, 1000)
        store.number(2, -1000)
        store.copy(3, 0)
        self.assertNotEqual(store.words()[0], store.words()[1])
        self.assertEqual([store.same(0, q) for q in (0, 1, 2, 3)], [True, True, False, True])
        self.assertEqual([store.same(q, 0) for q in (0, 1, 2, 3)], [True, True, False, True])

    def test_alike_pairs_are_not_the_same(self):
        store = eight()
        store.pair(0, 7, 7)
        store.pair(1, 7, 7)
        store.copy(2, 1)
        self.assertEqual([store.same(0, 1), store.same(1, 2), store.same(2, 1)], [False, True, True])
        self.assertEqual([store.told(q) for q in (0, 1, 7)], ["pair", "pair", "none"])

    def test_worths_of_several_kinds_are_not_the_same(self):
        store = eight()
        store.number(0, 0)
        store.sign(1, 0)
        store.one(2, "no")
        store.pair(3, 0, 0)
        store.number(4, 16)
        store.number(5, 1)
        store.sign(6, 1)
        for q, p in itertools.product(REGISTERS, repeat=2):
            self.assertIs(store.same(q, p), q == p)
        self.assertEqual([store.kind(q) for q in REGISTERS], ["number", "sign", "one", "pair", "number", "number", "sign", "one"])
        self.assertEqual([store.told(q) for q in REGISTERS], [0, ("sign", 0), "no", "pair", 16, 1, ("sign", 1), "none"])

    def test_each_sign_and_each_of_the_three(self):
        for laying in layings_of(8) + layings_of(11) + layings_of(32):
            store = Store(laying, 0)
            for k in range(128):
                store.sign(k % 8, k)
                self.assertEqual((store.told(k % 8), store.kind(k % 8)), (("sign", k), "sign"))
                self.assertEqual(store.words()[k % 8], word_for(laying, ("sign", k)))
            for k, text in enumerate(THREE):
                store.one(k, text)
                self.assertEqual((store.told(k), store.kind(k)), (text, "one"))
                self.assertEqual(store.words()[k], word_for(laying, text))
            self.assertEqual(store.outside(), [])


class Rings(Case):
    def test_a_pair_within_itself(self):
        for laying in layings_of(8) + layings_of(32):
            store = Store(laying, 400)
            store.pair(0, 0, 1)
            store.set_first(0, 0)
            for step in range(20):
                store.first(1, 0)
                self.assertIs(store.same(0, 1), True)
                store.first(0, 1)
            store.second(1, 0)
            self.assertEqual((store.told(0), store.told(1)), ("pair", "none"))
            self.assertEqual(store.outside(), [1, word_for(laying, ("pair", 0)), word_for(laying, "none")])

    def test_a_change_is_seen_through_every_copy(self):
        store = eight()
        store.pair(0, 6, 6)
        store.pair(1, 0, 0)
        store.copy(2, 0)
        store.number(3, 1000)
        store.set_second(2, 3)
        store.second(4, 1)
        store.second(5, 4)
        self.assertEqual((store.told(5), store.same(4, 0), store.same(5, 3)), (1000, True, True))
        store.number(3, 2)
        self.assertEqual(store.told(5), 1000)


class Refusals(Case):
    def filled(self, laying, q_kind, p_kind, great_ones):
        store = Store(laying, 400)
        put(store, 2, q_kind)
        put(store, 3, p_kind)
        if great_ones:
            for r, kind in ((2, q_kind), (3, p_kind)):
                if kind == "number":
                    store.number(r, 10 ** 9 + r)
        return store

    def check_refused(self, store, wanted, name, parts, part=None):
        before = seen(store)
        error = refusal(self, wanted, getattr(store, name), *parts)
        if part is not None:
            self.assertEqual(error.part, part)
        self.assertEqual(seen(store), before)

    def test_deeds_that_need_numbers(self):
        for laying in (layings_of(16)[0], layings_of(32)[1]):
            for q_kind, p_kind, great_ones in itertools.product(KINDS, KINDS, (False, True)):
                part = 1 if q_kind != "number" else 2
                if q_kind == p_kind == "number":
                    continue
                store = self.filled(laying, q_kind, p_kind, great_ones)
                for name in DEEDS_OF_TWO:
                    for r in (0, 2, 3):
                        self.check_refused(store, WrongKind, name, (r, 2, 3), part)
                self.check_refused(store, WrongKind, "below", (2, 3), part)

    def test_deeds_that_need_a_pair(self):
        for laying in (layings_of(16)[0], layings_of(32)[1]):
            for q_kind, p_kind in itertools.product(["number", "sign", "one"], KINDS):
                store = self.filled(laying, q_kind, p_kind, True)
                for name in ("first", "second"):
                    for r in (0, 2, 3):
                        self.check_refused(store, WrongKind, name, (r, 2), 1)
                for name in ("set_first", "set_second"):
                    self.check_refused(store, WrongKind, name, (2, 3), 1)
                    self.check_refused(store, WrongKind, name, (2, 2), 1)

    def test_by_nought(self):
        for name in ("over", "rest"):
            for n in (0, 5, -16, 16, 10 ** 9):
                store = eight()
                store.number(2, n)
                store.number(3, 0)
                store.pair(4, 2, 3)
                self.check_refused(store, Nought, name, (0, 2, 3))
                self.check_refused(store, Nought, name, (2, 2, 3))
                self.check_refused(store, Nought, name, (0, 3, 3))
                self.check_refused(store, WrongKind, name, (0, 4, 3), 1)
                self.check_refused(store, WrongKind, name, (0, 3, 4), 2)

    def test_wrong_kind_and_nought_go_ahead_of_no_room(self):
        store = Store((8, list(FULL)), 3)
        store.number(0, 1000)
        store.number(1, 0)
        for name in DEEDS_OF_TWO:
            self.check_refused(store, WrongKind, name, (4, 5, 0), 1)
            self.check_refused(store, WrongKind, name, (4, 0, 5), 2)
        self.check_refused(store, Nought, "over", (4, 0, 1))
        self.check_refused(store, Nought, "rest", (4, 0, 1))
        self.assertEqual(store.sweeps, 0)
        refusal(self, NoRoom, store.plus, 4, 0, 0)
        self.assertEqual(store.sweeps, 1)

    def test_a_store_goes_on_behind_a_refusal(self):
        store = eight()
        store.number(0, 12)
        refusal(self, WrongKind, store.plus, 0, 0, 1)
        store.plus(1, 0, 0)
        self.assertEqual((store.told(1), store.quick, store.slow), (24, 0, 1))


if __name__ == "__main__":
    unittest.main()
