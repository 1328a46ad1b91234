"""Points 2, 3 and 5: what the registers of a plain store hold."""

import itertools
import random
import unittest

from markwords.errors import Nought, WrongKind
from markwords.plain import PlainStore
from tests.worths import DEEDS_OF_TWO, NUMBERS, REGISTERS, THREE, Model, Twosome, look, put, refusal


class Registers(unittest.TestCase):
    def test_at_first_each_holds_none(self):
        store = PlainStore()
        self.assertEqual(look(store), (["none"] * 8, ["one"] * 8, [[True] * 8] * 8))

    def test_each_number_is_held_as_it_is(self):
        for r in REGISTERS:
            for n in NUMBERS:
                store = PlainStore()
                store.number(r, n)
                self.assertEqual(store.told(r), n)
                self.assertIs(type(store.told(r)), int)
                self.assertEqual(store.kind(r), "number")
                self.assertEqual([store.told(q) for q in REGISTERS if q != r], ["none"] * 7)

    def test_each_sign_is_held_as_it_is(self):
        for k in range(128):
            store = PlainStore()
            store.sign(k % 8, k)
            self.assertEqual(store.told(k % 8), ("sign", k))
            self.assertIs(type(store.told(k % 8)), tuple)
            self.assertEqual(store.kind(k % 8), "sign")
            self.assertEqual([store.told(q) for q in REGISTERS if q != k % 8], ["none"] * 7)

    def test_each_of_the_three_is_held_as_it_is(self):
        for text in THREE:
            store = PlainStore()
            store.number(4, 9)
            store.one(4, text)
            self.assertEqual((store.told(4), store.kind(4)), (text, "one"))

    def test_a_copy_holds_the_same(self):
        for n in NUMBERS:
            store = PlainStore()
            store.number(6, n)
            store.copy(0, 6)
            store.copy(0, 0)
            self.assertEqual((store.told(0), store.told(6), store.same(0, 6)), (n, n, True))
            store.number(6, n + 1)
            self.assertEqual((store.told(0), store.told(6), store.same(0, 6)), (n, n + 1, False))

    def test_deeds_that_tell_nothing_give_none(self):
        store = PlainStore()
        for name, parts in (
            ("number", (0, 12)), ("number", (1, 5)), ("sign", (2, 0)), ("one", (3, "yes")), ("copy", (4, 3)),
            ("plus", (5, 0, 1)), ("less", (5, 0, 1)), ("times", (5, 0, 1)), ("over", (5, 0, 1)), ("rest", (5, 0, 1)),
            ("pair", (6, 0, 2)), ("first", (7, 6)), ("second", (7, 6)), ("set_first", (6, 3)), ("set_second", (6, 3)),
        ):
            self.assertIsNone(getattr(store, name)(*parts), name)

    def test_truths_are_told_as_truths(self):
        store = PlainStore()
        store.number(0, 1)
        store.number(1, 2)
        for told, wanted in (
            (store.below(0, 1), True), (store.below(1, 0), False), (store.below(0, 0), False),
            (store.same(0, 0), True), (store.same(0, 1), False), (store.same(0, 2), False), (store.same(2, 3), True),
        ):
            self.assertIs(told, wanted)


class Same(unittest.TestCase):
    def test_a_sign_and_a_number_of_the_same_k_are_not_the_same(self):
        for k in (0, 1, 65, 127):
            store = PlainStore()
            store.sign(0, k)
            store.number(1, k)
            self.assertIs(store.same(0, 1), False)
            self.assertIs(store.same(1, 0), False)

    def test_alike_numbers_are_the_same_however_they_came(self):
        for n in NUMBERS:
            store = PlainStore()
            store.number(0, n)
            store.number(1, n - 5)
            store.number(2, 5)
            self.assertIs(store.same(0, 1), False)
            store.plus(1, 1, 2)
            self.assertIs(store.same(0, 1), True)

    def test_signs_and_ones_are_the_same_by_what_they_are(self):
        store = PlainStore()
        worths = [("sign", 0), ("sign", 127), "none", "no", "yes", 0, 127]
        put_in = [store.sign, store.sign, store.one, store.one, store.one, store.number, store.number]
        for one, put_one in zip(worths, put_in):
            for other, put_other in zip(worths, put_in):
                put_one(2, one[1] if isinstance(one, tuple) else one)
                put_other(5, other[1] if isinstance(other, tuple) else other)
                self.assertIs(store.same(2, 5), one == other, (one, other))


class TwoNumbers(unittest.TestCase):
    def held(self, n, m):
        store = PlainStore()
        for r in REGISTERS:
            store.number(r, 1000 + r)
        store.number(3, n)
        store.number(5, m)
        return store

    def check(self, name, n, m):
        wanted = DEEDS_OF_TWO[name](n, m)
        for r in (0, 3, 5):
            store = self.held(n, m)
            before = [store.told(q) for q in REGISTERS]
            getattr(store, name)(r, 3, 5)
            before[r] = wanted
            self.assertEqual([store.told(q) for q in REGISTERS], before, (name, n, m))
            self.assertEqual(store.kind(r), "number")

    def check_one_alone(self, name, n):
        wanted = DEEDS_OF_TWO[name](n, n)
        for r in (0, 3):
            store = self.held(n, 8)
            before = [store.told(q) for q in REGISTERS]
            getattr(store, name)(r, 3, 3)
            before[r] = wanted
            self.assertEqual([store.told(q) for q in REGISTERS], before, (name, n))

    def test_plus_less_times(self):
        for name in ("plus", "less", "times"):
            for n in NUMBERS:
                for m in NUMBERS:
                    self.check(name, n, m)

    def test_below(self):
        for n in NUMBERS:
            for m in NUMBERS:
                store = self.held(n, m)
                before = look(store)
                self.assertIs(store.below(3, 5), n < m)
                self.assertIs(store.below(5, 3), m < n)
                self.assertIs(store.below(3, 3), False)
                self.assertEqual(look(store), before)

    def test_the_very_same_one_twice(self):
        for name in DEEDS_OF_TWO:
            for n in NUMBERS:
                if n != 0 or name in ("plus", "less", "times"):
                    self.check_one_alone(name, n)

    def test_over_and_rest_with_all_four_signs(self):
        for name in ("over", "rest"):
            for n in NUMBERS:
                for m in NUMBERS:
                    if m != 0:
                        self.check(name, n, m)

    def test_over_and_rest_of_multiples_and_one_more_or_less(self):
        divisors = [1, 2, 3, 10, 128, 2 ** 32, 10 ** 29 + 7, 10 ** 60 - 1]
        for divisor in divisors:
            for many in (0, 1, 2, 7, 10 ** 30 + 1):
                for more in (-1, 0, 1):
                    for n in (divisor * many + more, -(divisor * many + more)):
                        for m in (divisor, -divisor):
                            self.check("over", n, m)
                            self.check("rest", n, m)

    def test_over_and_rest_by_hand(self):
        for n, m, over, rest in ((7, 2, 3, 1), (-7, 2, -4, 1), (7, -2, -4, -1), (-7, -2, 3, -1), (-6, 2, -3, 0), (0, -5, 0, 0)):
            store = self.held(n, m)
            store.over(0, 3, 5)
            store.rest(1, 3, 5)
            self.assertEqual((store.told(0), store.told(1)), (over, rest))

    def test_by_nought(self):
        for name in ("over", "rest"):
            for n in (0, 1, -1, 10 ** 60 - 1):
                for r, q, p in ((0, 3, 5), (3, 3, 5), (5, 3, 5)):
                    store = self.held(n, 0)
                    before = look(store)
                    refusal(self, Nought, getattr(store, name), r, q, p)
                    self.assertEqual(look(store), before)
            store = self.held(0, 0)
            refusal(self, Nought, getattr(store, name), 3, 3, 3)

    def test_any_registers(self):
        worths = [10 ** 59, -3, 7, 2 ** 31, -(2 ** 64), 1, -128, 12]
        store = PlainStore()
        for r, q, p in itertools.product(REGISTERS, repeat=3):
            for name, wanted in DEEDS_OF_TWO.items():
                for place, n in enumerate(worths):
                    store.number(place, n)
                getattr(store, name)(r, q, p)
                told = worths[:r] + [wanted(worths[q], worths[p])] + worths[r + 1:]
                self.assertEqual([store.told(place) for place in REGISTERS], told, (name, r, q, p))

    def test_below_of_any_registers(self):
        worths = [10 ** 59, -3, 7, 2 ** 31, -(2 ** 64), 7, -128, 12]
        store = PlainStore()
        for place, n in enumerate(worths):
            store.number(place, n)
        for q, p in itertools.product(REGISTERS, repeat=2):
            self.assertIs(store.below(q, p), worths[q] < worths[p])

    def test_numbers_grow_as_far_as_they_need(self):
        store = PlainStore()
        store.number(0, 10 ** 60 - 1)
        wanted = 10 ** 60 - 1
        for turn in range(6):
            store.times(0, 0, 0)
            wanted = wanted * wanted
        self.assertTrue(store.told(0) == wanted)
        self.assertEqual(store.kind(0), "number")


class Walk:
    """A row of deeds by chance (always the same ones), done in a plain store and in the model."""

    def __init__(self, case, seed):
        self.case = case
        self.chance = random.Random(seed)
        self.store = PlainStore()
        self.model = Model()

    def any(self):
        return self.chance.randrange(8)

    def step(self):
        name = self.chance.choice(
            ["number", "number", "sign", "one", "copy", "two", "two", "pair", "pair", "part", "part", "set", "set", "below"]
        )
        getattr(self, "step_" + name)()

    def step_number(self):
        r, n = self.any(), self.chance.choice(NUMBERS)
        self.store.number(r, n)
        self.model.worths[r] = n

    def step_sign(self):
        r, k = self.any(), self.chance.choice([0, 1, 64, 127])
        self.store.sign(r, k)
        self.model.worths[r] = ("sign", k)

    def step_one(self):
        r, text = self.any(), self.chance.choice(THREE)
        self.store.one(r, text)
        self.model.worths[r] = text

    def step_copy(self):
        r, q = self.any(), self.any()
        self.store.copy(r, q)
        self.model.worths[r] = self.model.worths[q]

    def wrong(self, q, p):
        if self.model.kind(q) != "number":
            return 1
        return 2 if self.model.kind(p) != "number" else None

    def step_two(self):
        name = self.chance.choice(sorted(DEEDS_OF_TWO))
        r, q, p = self.any(), self.any(), self.any()
        deed = getattr(self.store, name)
        part = self.wrong(q, p)
        if part is not None:
            self.case.assertEqual(refusal(self.case, WrongKind, deed, r, q, p).part, part)
        elif self.model.worths[p] == 0 and name in ("over", "rest"):
            refusal(self.case, Nought, deed, r, q, p)
        else:
            deed(r, q, p)
            self.model.worths[r] = DEEDS_OF_TWO[name](self.model.worths[q], self.model.worths[p])

    def step_below(self):
        q, p = self.any(), self.any()
        part = self.wrong(q, p)
        if part is not None:
            self.case.assertEqual(refusal(self.case, WrongKind, self.store.below, q, p).part, part)
        else:
            self.case.assertIs(self.store.below(q, p), self.model.worths[q] < self.model.worths[p])

    def step_pair(self):
        r, q, p = self.any(), self.any(), self.any()
        self.store.pair(r, q, p)
        self.model.worths[r] = Twosome(self.model.worths[q], self.model.worths[p])

    def step_part(self):
        name = self.chance.choice(["first", "second"])
        r, q = self.any(), self.any()
        if self.model.kind(q) != "pair":
            self.case.assertEqual(refusal(self.case, WrongKind, getattr(self.store, name), r, q).part, 1)
        else:
            getattr(self.store, name)(r, q)
            self.model.worths[r] = getattr(self.model.worths[q], name)

    def step_set(self):
        name = self.chance.choice(["first", "second"])
        q, p = self.any(), self.any()
        if self.model.kind(q) != "pair":
            self.case.assertEqual(refusal(self.case, WrongKind, getattr(self.store, "set_" + name), q, p).part, 1)
        else:
            getattr(self.store, "set_" + name)(q, p)
            setattr(self.model.worths[q], name, self.model.worths[p])


class Rows(unittest.TestCase):
    def test_rows_of_deeds(self):
        for seed in range(200):
            walk = Walk(self, seed)
            for turn in range(60):
                walk.step()
                self.assertEqual(look(walk.store), look(walk.model), (seed, turn))

    def test_two_stores_by_turns(self):
        for seed in range(60):
            walks = [Walk(self, seed), Walk(self, seed + 1000)]
            for turn in range(40):
                walks[turn % 2].step()
                for walk in walks:
                    self.assertEqual(look(walk.store), look(walk.model), (seed, turn))

    def test_two_stores_share_no_pairs(self):
        one, other = PlainStore(), PlainStore()
        for store in (one, other):
            store.number(0, 1)
            store.pair(1, 0, 0)
        one.number(0, 2)
        one.set_first(1, 0)
        other.first(3, 1)
        one.first(3, 1)
        self.assertEqual((one.told(3), other.told(3)), (2, 1))

    def test_a_new_store_is_fresh_behind_an_old_one(self):
        old = PlainStore()
        for r in REGISTERS:
            put(old, r, "number", r)
        self.assertEqual([PlainStore().told(q) for q in REGISTERS], ["none"] * 8)


if __name__ == "__main__":
    unittest.main()
