"""Point 6: what the deeds of a plain store refuse, in which order, and that nothing is changed by it."""

import unittest

from markwords.errors import Nought, WrongKind
from markwords.plain import PlainStore
from tests.worths import KINDS, REGISTERS, look, put, refusal

OTHERS = ["sign", "one", "pair"]
NO_PAIRS = ["number", "sign", "one"]


def filled(q_kind, p_kind):
    """A store with worths of these kinds in 2 and 3, and others about them."""
    store = PlainStore()
    store.number(0, 17)
    store.sign(1, 17)
    store.one(4, "yes")
    store.pair(5, 0, 1)
    store.copy(6, 5)
    put(store, 2, q_kind)
    put(store, 3, p_kind)
    return store


def deep_look(store):
    """A look, and what the pair in 5, which the deeds might have changed, has."""
    seen = look(store)
    store.first(7, 5)
    first = store.told(7)
    store.second(7, 5)
    second = store.told(7)
    store.one(7, "none")
    return (seen, first, second)


class Refusals(unittest.TestCase):
    def check(self, part, q_kind, p_kind, name, parts):
        store = filled(q_kind, p_kind)
        before = deep_look(store)
        error = refusal(self, WrongKind, getattr(store, name), *parts)
        self.assertEqual(error.part, part, (name, q_kind, p_kind))
        self.assertEqual(deep_look(store), before, (name, q_kind, p_kind))

    def test_deeds_that_need_numbers(self):
        for name in ("plus", "less", "times", "over", "rest"):
            for r in (0, 2, 3):
                for wrong in OTHERS:
                    self.check(1, wrong, "number", name, (r, 2, 3))
                    self.check(2, "number", wrong, name, (r, 2, 3))
                    self.check(1, wrong, "number", name, (r, 2, 2))
                    for other in OTHERS:
                        self.check(1, wrong, other, name, (r, 2, 3))

    def test_below_needs_numbers(self):
        for wrong in OTHERS:
            self.check(1, wrong, "number", "below", (2, 3))
            self.check(2, "number", wrong, "below", (2, 3))
            self.check(1, wrong, "number", "below", (2, 2))
            for other in OTHERS:
                self.check(1, wrong, other, "below", (2, 3))

    def test_first_and_second_need_a_pair(self):
        for name in ("first", "second"):
            for wrong in NO_PAIRS:
                for r in (0, 2, 5):
                    self.check(1, wrong, "pair", name, (r, 2))

    def test_set_first_and_set_second_look_at_q_alone(self):
        for name in ("set_first", "set_second"):
            for wrong in NO_PAIRS:
                for other in KINDS:
                    self.check(1, wrong, other, name, (2, 3))
                self.check(1, wrong, "pair", name, (2, 2))
            for other in KINDS:
                store = filled("pair", other)
                self.assertIsNone(getattr(store, name)(2, 3))

    def test_a_fresh_store_refuses_too(self):
        store = PlainStore()
        self.assertEqual(refusal(self, WrongKind, store.plus, 0, 1, 2).part, 1)
        self.assertEqual(refusal(self, WrongKind, store.first, 0, 1).part, 1)

    def test_nought_goes_behind_wrong_kind(self):
        for name in ("over", "rest"):
            for wrong in OTHERS:
                store = filled(wrong, "number")
                store.number(3, 0)
                before = deep_look(store)
                self.assertEqual(refusal(self, WrongKind, getattr(store, name), 0, 2, 3).part, 1)
                self.assertEqual(refusal(self, WrongKind, getattr(store, name), 0, 3, 2).part, 2)
                self.assertEqual(deep_look(store), before)
                refusal(self, Nought, getattr(store, name), 0, 3, 3)
                self.assertEqual(deep_look(store), before)

    def test_other_deeds_refuse_no_kind(self):
        for q_kind in KINDS:
            for p_kind in KINDS:
                store = filled(q_kind, p_kind)
                self.assertIsNone(store.copy(0, 2))
                self.assertIsNone(store.pair(1, 2, 3))
                self.assertIs(store.same(2, 0), True)
                self.assertIs(store.same(2, 3), q_kind == p_kind != "pair")
                self.assertEqual((store.kind(2), store.kind(3)), (q_kind, p_kind))

    def test_a_store_goes_on_behind_a_refusal(self):
        store = filled("number", "sign")
        refusal(self, WrongKind, store.plus, 2, 2, 3)
        store.plus(3, 2, 0)
        self.assertEqual([store.told(q) for q in REGISTERS][2:4], [41, 58])


if __name__ == "__main__":
    unittest.main()
