"""Points 3 and 5: pairs in a plain store."""

import unittest

from markwords.plain import PlainStore
from tests.worths import NUMBERS, REGISTERS, look


def parts_of(store, q):
    """What the pair in q has, told through registers 6 and 7."""
    store.first(6, q)
    store.second(7, q)
    return (store.told(6), store.told(7))


def numbered():
    store = PlainStore()
    for r in REGISTERS:
        store.number(r, 100 + r)
    return store


class Pairs(unittest.TestCase):
    def test_a_pair_has_what_it_was_made_of(self):
        for n in NUMBERS:
            store = PlainStore()
            store.number(0, n)
            store.sign(1, 127)
            store.pair(2, 0, 1)
            self.assertEqual((store.told(2), store.kind(2)), ("pair", "pair"))
            self.assertEqual(parts_of(store, 2), (n, ("sign", 127)))
            self.assertEqual((store.told(0), store.told(1)), (n, ("sign", 127)))

    def test_other_registers_stay(self):
        store = numbered()
        store.pair(4, 2, 3)
        self.assertEqual([store.told(q) for q in REGISTERS], [100, 101, 102, 103, "pair", 105, 106, 107])
        store.first(0, 4)
        self.assertEqual([store.told(q) for q in REGISTERS], [102, 101, 102, 103, "pair", 105, 106, 107])
        store.second(5, 4)
        self.assertEqual([store.told(q) for q in REGISTERS], [102, 101, 102, 103, "pair", 103, 106, 107])
        store.set_first(4, 7)
        store.set_second(4, 1)
        self.assertEqual([store.told(q) for q in REGISTERS], [102, 101, 102, 103, "pair", 103, 106, 107])
        self.assertEqual(parts_of(store, 4), (107, 101))

    def test_a_pair_keeps_what_it_has_when_registers_change(self):
        store = numbered()
        store.pair(2, 0, 1)
        store.number(0, 5)
        store.one(1, "no")
        self.assertEqual(parts_of(store, 2), (100, 101))

    def test_the_same_register_twice(self):
        store = numbered()
        store.pair(2, 3, 3)
        self.assertEqual(parts_of(store, 2), (103, 103))
        store.set_first(2, 4)
        self.assertEqual(parts_of(store, 2), (104, 103))

    def test_into_one_of_the_two(self):
        store = numbered()
        store.pair(0, 0, 1)
        self.assertEqual(parts_of(store, 0), (100, 101))
        store.pair(1, 2, 1)
        self.assertEqual(parts_of(store, 1), (102, 101))
        store.pair(2, 2, 2)
        self.assertEqual(parts_of(store, 2), (102, 102))

    def test_first_and_second_into_the_pair_s_own_register(self):
        for name, wanted in (("first", 100), ("second", 101)):
            store = numbered()
            store.pair(2, 0, 1)
            getattr(store, name)(2, 2)
            self.assertEqual(store.told(2), wanted)

    def test_pairs_of_alike_worths_are_not_the_same(self):
        store = numbered()
        store.pair(2, 0, 1)
        store.pair(3, 0, 1)
        store.copy(4, 2)
        self.assertIs(store.same(2, 3), False)
        self.assertIs(store.same(3, 4), False)
        self.assertIs(store.same(2, 4), True)
        self.assertIs(store.same(2, 2), True)
        store.pair(2, 0, 1)
        self.assertIs(store.same(2, 4), False)

    def test_a_pair_is_not_the_same_as_what_it_has(self):
        store = numbered()
        store.pair(2, 0, 0)
        store.pair(3, 2, 2)
        self.assertIs(store.same(2, 0), False)
        self.assertIs(store.same(3, 2), False)
        store.one(0, "none")
        self.assertIs(store.same(2, 0), False)

    def test_a_change_is_seen_through_all_that_hold_the_pair(self):
        for name, place in (("set_first", 0), ("set_second", 1)):
            store = numbered()
            store.pair(2, 0, 1)
            store.copy(3, 2)
            store.pair(4, 2, 2)
            getattr(store, name)(3, 5)
            wanted = [100, 101]
            wanted[place] = 105
            self.assertEqual(parts_of(store, 2), tuple(wanted))
            self.assertEqual(parts_of(store, 3), tuple(wanted))
            for part in (store.first, store.second):
                part(1, 4)
                self.assertIs(store.same(1, 2), True)
                self.assertEqual(parts_of(store, 1), tuple(wanted))

    def test_a_change_does_not_reach_another_pair(self):
        store = numbered()
        store.pair(2, 0, 1)
        store.pair(3, 0, 1)
        store.set_first(2, 5)
        store.set_second(2, 4)
        self.assertEqual(parts_of(store, 3), (100, 101))

    def test_a_copied_pair_goes_on_when_its_register_is_used_anew(self):
        store = numbered()
        store.pair(2, 0, 1)
        store.copy(3, 2)
        store.number(2, 0)
        self.assertEqual(parts_of(store, 3), (100, 101))


class Rings(unittest.TestCase):
    def test_a_pair_that_has_itself(self):
        store = numbered()
        store.pair(2, 0, 1)
        store.set_first(2, 2)
        store.set_second(2, 2)
        store.copy(3, 2)
        for turn in range(20):
            store.first(3, 3)
            self.assertIs(store.same(2, 3), True)
            store.second(3, 3)
            self.assertIs(store.same(2, 3), True)
        self.assertEqual((store.told(2), store.kind(2)), ("pair", "pair"))

    def test_two_rings_of_one_form_are_not_the_same(self):
        store = PlainStore()
        for r in (2, 3):
            store.pair(r, 0, 1)
            store.set_first(r, r)
            store.set_second(r, r)
        self.assertIs(store.same(2, 3), False)
        store.pair(4, 2, 2)
        store.pair(5, 3, 3)
        self.assertIs(store.same(4, 5), False)

    def test_a_ring_of_two(self):
        store = numbered()
        store.pair(2, 0, 0)
        store.pair(3, 1, 2)
        store.set_second(2, 3)
        store.second(4, 2)
        store.second(5, 4)
        self.assertIs(store.same(4, 3), True)
        self.assertIs(store.same(5, 2), True)
        self.assertEqual(parts_of(store, 2), (100, "pair"))
        self.assertEqual(parts_of(store, 3), (101, "pair"))

    def test_a_long_row_of_pairs(self):
        store = PlainStore()
        for n in range(3000):
            store.number(0, n)
            store.pair(1, 0, 1)
        store.copy(2, 1)
        self.assertIs(store.same(1, 2), True)
        for n in reversed(range(3000)):
            store.first(3, 2)
            self.assertEqual(store.told(3), n)
            store.second(2, 2)
        self.assertEqual(store.told(2), "none")

    def test_a_look_changes_nothing(self):
        store = numbered()
        store.pair(2, 0, 1)
        store.set_first(2, 2)
        self.assertEqual(look(store), look(store))


if __name__ == "__main__":
    unittest.main()
