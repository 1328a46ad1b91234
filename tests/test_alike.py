"""Point 16: whether two stores are alike."""

import itertools
import unittest

from markwords.images import alike
from markwords.store import Store, store_of
from tests.judged import drawn
from tests.laid import FULL, OPEN, layings_of, seen
from tests.walks import by_chance, grows_too_far, outcome
from tests.worths import REGISTERS

LAYINGS = [(16, OPEN), (32, FULL), (9, FULL)]


def built(laying, *deeds):
    """A new store behind some deeds, each a name and its parts."""
    store = Store(laying, 400)
    for name, *parts in deeds:
        getattr(store, name)(*parts)
    return store


class Case(unittest.TestCase):
    def check(self, one, other, wanted):
        before = seen(one), seen(other)
        self.assertIs(alike(one, other), wanted)
        self.assertIs(alike(other, one), wanted)
        self.assertEqual((seen(one), seen(other)), before)
        self.assertIs(drawn(one) == drawn(other), wanted)

    def check_built(self, ones, others, wanted):
        """The same under each two layings."""
        for laying, other in itertools.product(LAYINGS, repeat=2):
            self.check(built(laying, *ones), built(other, *others), wanted)


class Worths(Case):
    def test_new_ones(self):
        self.check_built([], [], True)

    def test_numbers(self):
        numbers = [0, 1, -1, 5, 31, 32, -32, -33, 255, 256, 2 ** 31, -(2 ** 31), 2 ** 40 + 1, 10 ** 50]
        for n, m in itertools.product(numbers, repeat=2):
            for laying, other in ((LAYINGS[0], LAYINGS[1]), (LAYINGS[2], LAYINGS[1]), (LAYINGS[2], LAYINGS[2])):
                self.check(built(laying, ("number", 3, n)), built(other, ("number", 3, m)), n == m)

    def test_signs_and_ones(self):
        deeds = [("sign", 2, k) for k in (0, 1, 2, 127)] + [("one", 2, text) for text in ("none", "no", "yes")]
        deeds += [("number", 2, n) for n in (0, 1, 2, 127)]
        for one, other in itertools.product(deeds, repeat=2):
            self.check_built([one], [other], one == other)

    def test_kinds_apart(self):
        deeds = [("number", 2, 0), ("sign", 2, 0), ("one", 2, "no"), ("pair", 2, 2, 2), ("number", 2, 10 ** 9)]
        for one, other in itertools.product(deeds, repeat=2):
            self.check_built([one], [other], one == other)

    def test_each_register_counts(self):
        for r in REGISTERS:
            for deed in (("number", r, 7), ("number", r, 700), ("one", r, "yes"), ("pair", r, r, r)):
                self.check_built([deed], [], False)
                self.check_built([deed], [deed], True)
                self.check_built([deed], [deed[:1] + ((r + 1) % 8,) + deed[2:]], False)

    def test_great_numbers_may_be_shared_or_apart(self):
        shared = [("number", 0, 10 ** 9), ("copy", 1, 0), ("pair", 2, 0, 0)]
        apart = [("number", 5, 10 ** 9), ("number", 0, 10 ** 9), ("number", 1, 10 ** 9), ("pair", 2, 5, 1), ("one", 5, "none")]
        self.check_built(shared, apart, True)

    def test_what_is_not_reached_does_not_count(self):
        deeds = [("number", 0, 700), ("pair", 1, 0, 0), ("one", 0, "none"), ("one", 1, "none")]
        self.check_built(deeds, [], True)
        self.check_built(deeds + [("pair", 3, 0, 0)], [("pair", 3, 0, 0)], True)


class Pairs(Case):
    def test_firsts_and_seconds(self):
        base = [("number", 0, 5), ("sign", 1, 5)]
        self.check_built(base + [("pair", 2, 0, 1)], base + [("pair", 2, 0, 1)], True)
        self.check_built(base + [("pair", 2, 0, 1)], base + [("pair", 2, 1, 0)], False)
        self.check_built(base + [("pair", 2, 0, 1)], base + [("pair", 2, 0, 0)], False)
        self.check_built(base + [("pair", 2, 0, 1)], base + [("pair", 2, 1, 1)], False)

    def test_shared_and_apart(self):
        shared = [("pair", 0, 7, 7), ("copy", 1, 0)]
        apart = [("pair", 0, 7, 7), ("pair", 1, 7, 7)]
        self.check_built(shared, shared, True)
        self.check_built(apart, apart, True)
        self.check_built(shared, apart, False)

    def test_shared_and_apart_within_pairs(self):
        shared = [("pair", 0, 7, 7), ("pair", 1, 0, 0), ("one", 0, "none")]
        apart = [("pair", 0, 7, 7), ("pair", 1, 7, 7), ("pair", 1, 0, 1), ("one", 0, "none")]
        self.check_built(shared, apart, False)
        self.check_built(apart, apart, True)
        deep = [("pair", 2, 7, 7), ("pair", 3, 1, 2), ("pair", 3, 2, 3), ("copy", 4, 2)]
        self.check_built(shared + deep, shared + deep, True)
        self.check_built(shared + deep, apart + deep, False)
        self.check_built(shared + deep, shared + deep + [("pair", 4, 7, 7)], False)

    def test_in_another_order_outside(self):
        one = [("pair", 0, 7, 7), ("number", 1, 10 ** 9), ("pair", 2, 0, 1)]
        other = [("number", 1, 10 ** 9), ("pair", 0, 7, 1), ("pair", 0, 7, 7), ("pair", 2, 0, 1)]
        self.check_built(one, other, True)
        ahead = [("pair", 2, 7, 7), ("pair", 0, 7, 7), ("number", 1, 10 ** 9), ("set_first", 2, 0), ("set_second", 2, 1)]
        self.check_built(one, ahead, True)

    def test_rings(self):
        itself = [("pair", 0, 7, 7), ("set_first", 0, 0)]
        two = [("pair", 0, 7, 7), ("pair", 1, 0, 7), ("set_first", 0, 1), ("one", 1, "none")]
        three = [("pair", 0, 7, 7), ("pair", 1, 0, 7), ("pair", 1, 1, 7), ("set_first", 0, 1), ("one", 1, "none")]
        for one, other in itertools.product((itself, two, three), repeat=2):
            self.check_built(one, other, one == other)
        self.check_built(two, [("pair", 1, 7, 7), ("pair", 0, 1, 7), ("set_first", 1, 0), ("one", 1, "none")], True)
        self.check_built(itself, [("pair", 0, 7, 7), ("set_second", 0, 0)], False)
        self.check_built(itself, [("pair", 0, 7, 7)], False)

    def test_rings_entered_at_several_pairs(self):
        ring = [("pair", 0, 7, 7), ("pair", 1, 0, 7), ("set_first", 0, 1)]
        self.check_built(ring, ring, True)
        self.check_built(ring, ring + [("copy", 2, 0), ("copy", 0, 1), ("copy", 1, 2), ("one", 2, "none")], True)
        self.check_built(ring, ring + [("copy", 1, 0)], False)
        self.check_built(ring + [("copy", 1, 0)], ring + [("copy", 1, 0)], True)

    def test_pairs_of_one_store_that_go_with_one_of_the_other(self):
        # Seen from the first store alone, each pair would find its fellow.
        one = [("pair", 0, 7, 7), ("pair", 1, 7, 7), ("pair", 2, 0, 1)]
        other = [("pair", 0, 7, 7), ("copy", 1, 0), ("pair", 2, 0, 1)]
        self.check_built(one, other, False)

    def test_a_long_chain(self):
        for count, wanted in ((100, True), (99, False)):
            one, other = Store((32, list(FULL)), 400), Store((16, list(OPEN)), 400)
            for k in range(100):
                one.pair(0, 0, 1)
            for k in range(count):
                other.pair(0, 0, 1)
            self.check(one, other, wanted)

    def test_the_very_same_store(self):
        for laying in LAYINGS:
            store = built(laying, ("pair", 0, 1, 2), ("set_first", 0, 0), ("number", 1, 700))
            self.check(store, store, True)


class ByChance(Case):
    def test_the_same_deeds_under_two_layings(self):
        told = {True: 0, False: 0}
        layings = layings_of(9) + layings_of(14) + layings_of(32)
        for seed in range(120):
            one, other = Store(layings[seed % 17], 400), Store(layings[(seed * 5 + 3) % 17], 400)
            for deed in by_chance(seed, 60, ["pair"] * 5 + ["set_first", "set_second"] * 3):
                if grows_too_far(one, deed) or grows_too_far(other, deed):
                    continue
                outcome(one, deed)
                outcome(other, deed)
                if seed % 3 == 0:
                    other.sweep()
                wanted = drawn(one) == drawn(other)
                self.check(one, other, wanted)
                told[wanted] += 1
        self.assertGreater(min(told.values()), 1000)

    def test_a_store_and_one_with_a_changed_word(self):
        told = {True: 0, False: 0}
        for seed in range(60):
            laying = layings_of(9)[seed % 5]
            store = Store(laying, 400)
            for deed in by_chance(seed, 30, ["pair"] * 12):
                if not grows_too_far(store, deed):
                    outcome(store, deed)
            words, outside = store.words(), store.outside()
            for place, new in itertools.product(REGISTERS, words):
                other = store_of(laying, 400, words[:place] + [new] + words[place + 1:], outside)
                wanted = drawn(store) == drawn(other)
                self.check(store, other, wanted)
                told[wanted] += 1
        self.assertGreater(min(told.values()), 300)


if __name__ == "__main__":
    unittest.main()
