"""Points 2 and 11, and the interface of store.py: what a store is made of is its own."""

import unittest

from markwords.store import Store, store_of
from tests.laid import FULL, OPEN, layings_of, seen, word_for
from tests.worths import REGISTERS

P, F = (lambda address: 8 * address + 5), (lambda address: 8 * address + 3)
WORDS = [F(0), P(2), 7, 15, 41, 254, P(2), F(5)]
OUTSIDE = [4, 16, 1, P(2), F(5), 10, 0, 1, 1, 7, 7]


def made():
    return store_of((8, list(FULL)), 50, list(WORDS), list(OUTSIDE))


class StoreOf(unittest.TestCase):
    def test_holds_just_these(self):
        store = made()
        self.assertIsInstance(store, Store)
        self.assertEqual(seen(store), {
            "laying": (8, FULL), "room": 50, "words": WORDS, "outside": OUTSIDE, "counts": (0, 0, 0),
        })
        self.assertEqual([store.told(q) for q in REGISTERS], [16, "pair", "none", "no", 5, ("sign", 127), "pair", -256])
        self.assertIs(store.same(1, 6), True)

    def test_what_is_not_reached_stays_until_it_is_swept(self):
        store = made()
        store.copy(0, 2)
        self.assertEqual(store.outside(), OUTSIDE)
        store.number(0, 16)
        self.assertEqual(store.outside(), OUTSIDE + [4, 16])
        store.sweep()
        self.assertEqual(store.outside(), [1, P(0), F(3), 10, 0, 1, 4, 16])
        self.assertEqual(store.words(), [F(6), P(0), 7, 15, 41, 254, P(0), F(3)])

    def test_what_is_handed_in_is_not_changed(self):
        laying, words, outside = (8, list(FULL)), list(WORDS), list(OUTSIDE)
        store = store_of(laying, 14, words, outside)
        store.number(2, 3)
        store.set_first(1, 2)
        store.plus(3, 0, 0)
        store.one(0, "yes")
        store.pair(4, 1, 1)
        store.sweep()
        self.assertEqual((laying, words, outside), ((8, FULL), WORDS, OUTSIDE))

    def test_later_changes_of_what_was_handed_in_do_not_reach_it(self):
        laying, words, outside = (8, list(FULL)), list(WORDS), list(OUTSIDE)
        store = store_of(laying, 50, words, outside)
        before = seen(store)
        words[0] = 99
        words.append(3)
        outside.clear()
        laying[1][:] = OPEN
        self.assertEqual(seen(store), before)
        store.number(2, 1)
        store.number(3, 17)
        self.assertEqual(store.words()[2:4], [9, F(11)])
        self.assertEqual((store.told(0), store.told(7), store.kind(1)), (16, -256, "pair"))

    def test_the_laying_of_a_new_store_is_its_own(self):
        for bits in (8, 20, 32):
            for laying in layings_of(bits):
                kept = (bits, list(laying[1]))
                store = Store(laying, 10)
                laying[1].clear()
                self.assertEqual(store.laying, kept)
                store.sign(0, 5)
                store.number(1, 2 ** (bits - 1))
                store.pair(2, 1, 0)
                self.assertEqual(store.words()[:3], [word_for(kept, worth) for worth in (("sign", 5), ("far", 0), ("pair", 2))])
                store.sweep()
                self.assertEqual([store.told(q) for q in (0, 1, 2, 3)], [("sign", 5), 2 ** (bits - 1), "pair", "none"])

    def test_marks_stay_in_their_order(self):
        for turn in range(5):
            marks = FULL[turn:] + FULL[:turn]
            self.assertEqual(Store((9, list(marks)), 5).laying, (9, marks))
            self.assertEqual(store_of((8, list(marks)), 50, WORDS, OUTSIDE).laying, (8, marks))

    def test_lists_told_are_the_asker_s_own(self):
        store = made()
        before = seen(store)
        told = [store.words(), store.words(), store.outside(), store.outside()]
        self.assertEqual(len({id(part) for part in told}), 4)
        for part in told:
            part.reverse()
            part.pop()
        self.assertEqual(seen(store), before)
        kept = store.outside()
        store.set_first(1, 2)
        store.sweep()
        self.assertEqual(kept, OUTSIDE)

    def test_two_stores_by_turns(self):
        laying, words, outside = (8, list(FULL)), list(WORDS), list(OUTSIDE)
        one, other = store_of(laying, 50, words, outside), store_of(laying, 50, words, outside)
        third, fourth = Store(laying, 9), Store(laying, 9)
        one.number(2, 100)
        self.assertEqual(seen(other)["words"], WORDS)
        other.set_first(1, 2)
        self.assertEqual(one.outside(), OUTSIDE + [4, 100])
        one.plus(3, 2, 2)
        self.assertEqual((one.slow, other.slow, third.slow), (1, 0, 0))
        other.sweep()
        self.assertEqual((one.sweeps, other.sweeps), (0, 1))
        third.pair(0, 0, 0)
        self.assertEqual((third.outside(), fourth.outside()), ([1, 7, 7], []))
        fourth.number(0, 3)
        self.assertEqual((third.words()[0], fourth.words()[0]), (P(0), 25))
        self.assertEqual((one.told(3), other.told(3)), (200, "no"))


if __name__ == "__main__":
    unittest.main()
