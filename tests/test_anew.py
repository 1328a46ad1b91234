"""Points 2, 4 and 17: stores laid anew."""

import copy
import unittest

from markwords.anew import laid_anew
from markwords.errors import NoRoom
from markwords.images import alike, image_fault, image_of, opened
from markwords.plain import PlainStore
from markwords.store import Store, store_of
from tests.judged import OUTSIDE, WORDS, drawn, image
from tests.laid import FULL, OPEN, TIGHT_FAR, TIGHT_PAIR, LaidModel, Refused, layings_of, row_for, seen, word_for
from tests.scripted import model_anew
from tests.walks import by_chance, grows_too_far, outcome
from tests.worths import REGISTERS, look, refusal

NARROW = (8, FULL)
MIDDLE = (16, OPEN)
BROAD = (32, FULL)


def done(store, *deeds):
    """The store behind some deeds, each a name and its parts."""
    for name, *parts in deeds:
        getattr(store, name)(*parts)
    return store


def built(laying, *deeds):
    return done(Store(laying, 400), *deeds)


def words_for(laying, *worths):
    return [word_for(laying, worth) for worth in worths]


def far(address):
    return ("far", address)


def pair(address):
    return ("pair", address)


class Case(unittest.TestCase):
    def moved(self, store, laying, room=400):
        """Laid anew, and all looked at that holds of any store laid anew."""
        before, kept = seen(store), copy.deepcopy(laying)
        new = laid_anew(store, laying, room)
        self.assertIsInstance(new, Store)
        self.assertEqual((seen(store), laying), (before, kept))
        self.assertEqual((new.laying, new.room), (laying, room))
        self.assertEqual((new.quick, new.slow, new.sweeps), (0, 0, 0))
        self.assertIsNone(image_fault(image_of(new)))
        self.assertTrue(alike(store, new) and alike(new, store))
        self.assertEqual(drawn(store), drawn(new))
        return new

    def check(self, store, laying, worths, outside, room=400):
        """Laid anew it has these worths, as far as they are told, the rest being none, and just this outside."""
        new = self.moved(store, laying, room)
        self.assertEqual(new.words(), words_for(laying, *(worths + ["none"] * (8 - len(worths)))))
        self.assertEqual(new.outside(), outside)
        return new

    def check_refused(self, store, laying, room):
        before, kept = seen(store), copy.deepcopy(laying)
        refusal(self, NoRoom, laid_anew, store, laying, room)
        self.assertEqual((seen(store), laying), (before, kept))

    def check_just_enough(self, store, laying):
        """It finds room in just as many words as its outside has, and not in one fewer."""
        size = len(self.moved(store, laying).outside())
        wanted = self.moved(store, laying).outside()
        self.assertEqual(self.moved(store, laying, size).outside(), wanted)
        for room in {0, size // 2, size - 1} - {-1, size}:
            self.check_refused(store, laying, room)


class Words(Case):
    def test_new_stores(self):
        for one in layings_of(8) + layings_of(13) + layings_of(32):
            for other in layings_of(8) + layings_of(13) + layings_of(32):
                for room in (0, 1, 400):
                    self.check(Store(one, 7), other, [], [], room)

    def test_worths_that_are_in_words_there_too(self):
        deeds = [("number", 0, 15), ("number", 1, -16), ("sign", 2, 0), ("sign", 3, 127)]
        deeds += [("one", 4, "no"), ("one", 5, "yes")]
        for one in (NARROW, MIDDLE, BROAD):
            for other in (NARROW, MIDDLE, BROAD):
                worths = [15, -16, ("sign", 0), ("sign", 127), "no", "yes"]
                self.check(built(one, *deeds), other, worths, [], room=0)

    def test_each_register_in_order(self):
        deeds = [("number", r, 1000 - r) for r in reversed(REGISTERS)]
        outside = [word for r in REGISTERS for word in row_for(NARROW, 1000 - r)]
        self.check(built(BROAD, *deeds), NARROW, [far(3 * r) for r in REGISTERS], outside)
        self.check(built(MIDDLE, *deeds), NARROW, [far(3 * r) for r in REGISTERS], outside)

    def test_rooms_of_old_and_new_are_apart(self):
        store = done(Store(BROAD, 0), ("number", 0, 1000))
        self.check(store, NARROW, [far(0)], [8, 232, 3], room=3)
        self.check_refused(store, NARROW, 2)
        self.check(built(NARROW, ("number", 0, 1000)), BROAD, [1000], [], room=0)


class Numbers(Case):
    def test_one_that_was_in_a_word_each_time(self):
        store = built(BROAD, ("number", 0, 16), ("copy", 1, 0), ("pair", 2, 0, 0), ("number", 7, 16))
        new = self.moved(store, NARROW)
        words = words_for(NARROW, far(0), far(2), pair(4), "none", "none", "none", "none", far(7))
        self.assertEqual(new.words(), words)
        outside = [4, 16, 4, 16, 1] + words_for(NARROW, far(9), far(11)) + [4, 16, 4, 16, 4, 16]
        self.assertEqual(new.outside(), outside)

    def test_one_that_was_a_thing_once(self):
        n = 2 ** 31
        store = built(BROAD, ("number", 1, n), ("copy", 5, 1), ("pair", 6, 1, 5), ("number", 7, n))
        new = self.moved(store, NARROW)
        words = words_for(NARROW, "none", far(0), "none", "none", "none", far(0), pair(5), far(8))
        self.assertEqual(new.words(), words)
        row = [16, 0, 0, 0, 128]
        self.assertEqual(new.outside(), row + [1] + words_for(NARROW, far(0), far(0)) + row)

    def test_two_things_of_one_number_stay_two(self):
        store = built(NARROW, ("number", 0, 99), ("number", 1, 99), ("copy", 2, 0))
        self.assertEqual(self.moved(store, NARROW).outside(), [4, 99, 4, 99])
        self.check(store, BROAD, [99, 99, 99], [])
        tight = (8, TIGHT_FAR)
        self.check(store, tight, [far(0), far(2), far(0)], [4, 99, 4, 99])

    def test_things_that_are_small_now(self):
        store = built(NARROW, ("number", 0, 16), ("number", 1, -17), ("pair", 2, 0, 1), ("copy", 3, 0))
        outside = [1] + words_for(BROAD, 16, -17)
        self.check(store, BROAD, [16, -17, pair(0), 16], outside)
        self.check_just_enough(store, BROAD)

    def test_small_ones_that_are_things_now(self):
        for n in (16, -17, 255, -255, 256, -256, 4095, -4096):
            store = built(MIDDLE, ("number", 0, n))
            self.assertEqual(store.outside(), [])
            new = self.check(store, NARROW, [far(0)], row_for(NARROW, n))
            self.assertEqual(new.told(0), n)
            self.check(new, MIDDLE, [n], [])
        for n in (15, -16):
            self.check(built(MIDDLE, ("number", 0, n)), NARROW, [n], [])

    def test_limbs_of_another_base(self):
        for n in (2 ** 64 + 3, -(2 ** 64) - 3, 10 ** 59, -(10 ** 59)):
            for one in (NARROW, MIDDLE, BROAD):
                for other in (NARROW, MIDDLE, BROAD):
                    self.check(built(one, ("number", 0, n), ("copy", 1, 0)), other, [far(0), far(0)], row_for(other, n))

    def test_back_again_a_number_that_was_in_a_word_is_one_thing_each(self):
        store = built(BROAD, ("number", 0, 16), ("copy", 1, 0))
        there = self.moved(store, NARROW)
        self.assertEqual(there.outside(), [4, 16, 4, 16])
        self.check(there, BROAD, [16, 16], [])


class Pairs(Case):
    def test_three_words_where_it_is_met_then_the_queue(self):
        store = built(BROAD, ("number", 0, 16), ("sign", 1, 3), ("pair", 2, 0, 1), ("number", 3, 17), ("number", 0, 18))
        # Registers: a far number, a sign, a pair of another far one and the sign, a far number.
        outside = [4, 18, 1] + words_for(NARROW, far(7), ("sign", 3)) + [4, 17, 4, 16]
        self.check(store, NARROW, [far(0), ("sign", 3), pair(2), far(5)], outside)
        self.check_just_enough(store, NARROW)

    def test_first_ahead_of_second_and_pairs_in_the_order_they_were_met(self):
        store = built(
            BROAD, ("number", 0, 100), ("number", 1, 101), ("pair", 2, 0, 1), ("number", 0, 102), ("number", 1, 103),
            ("pair", 3, 0, 1), ("pair", 4, 2, 3), ("number", 0, 104), ("pair", 5, 0, 4), ("one", 0, "none"),
            ("one", 1, "none"), ("one", 2, "none"), ("one", 3, "none"), ("one", 4, "none"),
        )
        # Register 5: (104, ((100, 101), (102, 103))).
        outside = [1] + words_for(NARROW, far(3), pair(5)) + [4, 104]
        outside += [1] + words_for(NARROW, pair(8), pair(11))
        outside += [1] + words_for(NARROW, far(14), far(16))
        outside += [1] + words_for(NARROW, far(18), far(20))
        outside += [4, 100, 4, 101, 4, 102, 4, 103]
        self.check(store, NARROW, ["none"] * 5 + [pair(0)], outside)
        self.check_just_enough(store, NARROW)

    def test_registers_ahead_of_the_queue(self):
        store = built(BROAD, ("pair", 0, 7, 7), ("pair", 1, 0, 7), ("copy", 2, 0), ("copy", 0, 1), ("number", 3, 2 ** 40))
        none = word_for(NARROW, "none")
        outside = [1, word_for(NARROW, pair(3)), none, 1, none, none] + row_for(NARROW, 2 ** 40)
        self.check(store, NARROW, [pair(0), pair(0), pair(3), far(6)], outside)

    def test_shared_pairs(self):
        store = built(MIDDLE, ("pair", 0, 7, 7), ("pair", 1, 0, 0), ("pair", 2, 0, 1), ("copy", 3, 1))
        none = word_for(BROAD, "none")
        outside = [1, none, none, 1] + words_for(BROAD, pair(0), pair(0)) + [1] + words_for(BROAD, pair(0), pair(3))
        new = self.check(store, BROAD, [pair(0), pair(3), pair(6), pair(3)], outside)
        new.first(6, 2)
        self.assertTrue(new.same(6, 0))

    def test_rings(self):
        store = built(BROAD, ("pair", 0, 7, 7), ("set_first", 0, 0), ("number", 1, 77), ("set_second", 0, 1))
        outside = [1] + words_for(NARROW, pair(0), far(5)) + [4, 77, 4, 77]
        self.check(store, NARROW, [pair(0), far(3)], outside)
        two = built(BROAD, ("pair", 0, 7, 7), ("pair", 1, 0, 7), ("set_second", 0, 1))
        none = word_for(NARROW, "none")
        outside = [1, none, word_for(NARROW, pair(3)), 1, word_for(NARROW, pair(0)), none]
        self.check(two, NARROW, [pair(0), pair(3)], outside)
        done(two, ("copy", 2, 0), ("one", 0, "none"), ("copy", 1, 2), ("one", 2, "none"))
        self.check(two, NARROW, ["none", pair(0)], outside)

    def test_a_number_thing_that_pairs_and_registers_share(self):
        store = built(BROAD, ("number", 0, 2 ** 40), ("pair", 1, 0, 0), ("pair", 2, 0, 1), ("one", 0, "none"))
        row = row_for(NARROW, 2 ** 40)
        outside = [1] + words_for(NARROW, far(6), far(6)) + [1] + words_for(NARROW, far(6), pair(0)) + row
        self.check(store, NARROW, ["none", pair(0), pair(3)], outside)

    def test_what_is_not_reached_is_left_out(self):
        store = built(BROAD, ("number", 0, 2 ** 40), ("pair", 0, 0, 0), ("pair", 1, 0, 7))
        done(store, ("one", 0, "none"), ("one", 1, "no"))
        self.assertEqual(len(store.outside()), 9)
        self.check(store, NARROW, ["none", "no"], [], room=0)

    def test_a_long_chain(self):
        store = Store(BROAD, 400)
        for turn in range(133):
            store.pair(0, 0, 1)
        self.assertEqual(len(store.outside()), 399)
        laying = (13, OPEN)
        new = self.moved(store, laying, 399)
        self.assertEqual(new.outside()[:4], [1, word_for(laying, pair(3)), word_for(laying, "none"), 1])
        self.check_refused(store, laying, 398)
        self.check_refused(store, (12, OPEN), 400)


class UnderTheSameLaying(Case):
    def test_it_is_ordered_anew(self):
        store = opened(image())
        new = self.moved(store, (8, FULL), 400)
        self.assertEqual(len(new.outside()), len(OUTSIDE))
        again = self.moved(new, (8, FULL), 400)
        self.assertEqual(seen(again), seen(new))

    def test_with_the_store_s_own_laying(self):
        store = opened(image())
        new = laid_anew(store, store.laying, store.room)
        self.assertIsNot(new.laying[1], store.laying[1])
        new.number(0, 5)
        self.assertEqual((store.words(), store.outside()), (WORDS, OUTSIDE))


class Room(Case):
    def test_what_far_loads_can_number(self):
        tight = (8, TIGHT_FAR)
        deeds = [("number", r, 100 + r) for r in range(4)]
        new = self.moved(built(BROAD, *deeds), tight, 400)
        self.assertEqual(len(new.outside()), 8)
        self.check_refused(built(BROAD, *deeds, ("number", 4, 104)), tight, 400)
        self.check_refused(built(BROAD, *deeds, ("number", 4, 10 ** 20)), tight, 400)
        worths = [far(0), far(2), far(4), far(6), ("sign", 1)]
        self.check(built(BROAD, *deeds, ("sign", 4, 1)), tight, worths, new.outside())

    def test_what_pair_loads_can_number(self):
        tight = (8, TIGHT_PAIR)
        two = built(BROAD, ("pair", 0, 6, 7), ("pair", 1, 6, 7), ("number", 2, 200))
        self.assertEqual(len(self.moved(two, tight, 400).outside()), 8)
        self.check_refused(built(BROAD, ("pair", 0, 6, 7), ("pair", 1, 6, 7), ("number", 2, 300)), tight, 400)
        self.check_refused(built(BROAD, *[("pair", r, 6, 7) for r in range(3)]), tight, 400)
        # Numbers alone are held to it too.
        self.check_refused(built(BROAD, *[("number", r, 200) for r in range(5)]), tight, 400)

    def test_just_enough_and_one_fewer(self):
        for deeds in (
            [("number", 0, 16)], [("number", 0, 2 ** 40)], [("pair", 0, 1, 2)], [("number", 0, 16), ("pair", 1, 0, 0)],
            [("number", 0, 2 ** 40), ("pair", 1, 0, 0), ("pair", 2, 1, 0), ("number", 3, 400)],
            [("pair", 0, 7, 7), ("set_first", 0, 0), ("number", 7, 99)],
        ):
            self.check_just_enough(built(BROAD, *deeds), NARROW)
            self.check_just_enough(built(BROAD, *deeds), (9, OPEN))

    def test_numbers_of_too_many_limbs(self):
        broad = Store(BROAD, 400)
        # Under the widest loads that far numbers and pairs may both have, the limbs reach just as far as the room.
        for bits in (9, 10):
            wide = (bits, [("sign", 2, 0), ("far", 2, 1), ("pair", 2, 2), ("small", 3, 3), ("one", 3, 7)])
            most = 2 ** (bits - 2) - 1
            for sign in (1, -1):
                n = sign * (2 ** (bits * most) - 1)
                broad.number(0, n)
                self.check(broad, wide, [far(0)], row_for(wide, n))
                broad.number(0, n + sign)
                self.check_refused(broad, wide, 400)
        broad.number(0, 2 ** 504)
        self.check_refused(broad, NARROW, 400)
        self.check_refused(broad, (8, TIGHT_PAIR), 400)


class OwnLists(Case):
    def test_neither_store_nor_the_laying_reaches_the_other(self):
        laying = (16, list(OPEN))
        store = built(BROAD, ("number", 0, 10 ** 9), ("pair", 1, 0, 0), ("number", 2, 2 ** 33))
        new = laid_anew(store, laying, 400)
        before, there = seen(store), seen(new)
        laying[1].clear()
        self.assertEqual(seen(new), there)
        done(new, ("set_first", 1, 1), ("number", 3, 10 ** 12), ("one", 0, "no"), ("plus", 4, 2, 2))
        self.assertEqual(seen(store), before)
        there = seen(new)
        done(store, ("set_second", 1, 1), ("one", 2, "no"))
        store.sweep()
        self.assertEqual(seen(new), there)

    def test_counts_start_anew(self):
        store = built(BROAD, ("number", 0, 2), ("plus", 0, 0, 0), ("number", 1, 2 ** 31), ("plus", 1, 1, 1))
        store.sweep()
        self.assertEqual((store.quick, store.slow, store.sweeps), (1, 1, 1))
        new = self.moved(store, NARROW)
        new.plus(0, 0, 0)
        self.assertEqual((new.quick, new.slow, new.sweeps), (1, 0, 0))


class ByChance(Case):
    def test_beside_the_model(self):
        layings = [laying for bits in (8, 9, 10, 13, 16, 31, 32) for laying in layings_of(bits)]
        told = {"laid": 0, "refused": 0}
        for seed in range(150):
            one = layings[seed % len(layings)]
            store, model = Store(one, 120), LaidModel(one, 120)
            for deed in by_chance(seed, 50, ["pair"] * 6 + ["set_first", "set_second"] * 2):
                if not grows_too_far(model, deed):
                    outcome(store, deed)
                    outcome(model, deed)
            for turn in range(10):
                other, room = layings[(7 * seed + 11 * turn) % len(layings)], [400, 60, 30, 10, 2][turn % 5]
                try:
                    wanted = model_anew(model, other, room)
                except Refused:
                    told["refused"] += 1
                    self.check_refused(store, other, room)
                    continue
                told["laid"] += 1
                self.assertEqual(seen(self.moved(store, other, room)), seen(wanted))
                if wanted.outside():
                    self.check_just_enough(store, other)
        self.assertGreater(min(told.values()), 400)

    def test_there_and_back_again(self):
        layings = layings_of(9) + layings_of(16) + layings_of(32)
        for seed in range(60):
            store = Store(layings[seed % len(layings)], 400)
            for deed in by_chance(seed, 30, ["pair"] * 4):
                if not grows_too_far(store, deed):
                    outcome(store, deed)
            there = laid_anew(store, (20, list(OPEN)), 400)
            back = self.moved(there, store.laying)
            self.assertTrue(alike(store, back))
            again = self.moved(self.moved(back, (20, list(OPEN))), store.laying)
            self.assertEqual(seen(again), seen(back))

    def test_goes_on_as_the_old_one_would(self):
        lacked = 0
        layings = [laying for bits in (9, 12, 20, 32) for laying in layings_of(bits)]
        for seed in range(40):
            store, plain = Store(layings[seed % len(layings)], 200), PlainStore()
            for step, deed in enumerate(by_chance(seed, 80, ["pair"] * 3)):
                if grows_too_far(plain, deed):
                    continue
                try:
                    store = laid_anew(store, layings[(seed + 7 * step) % len(layings)], 200)
                except NoRoom:
                    lacked += 1
                told = outcome(store, deed)
                if told[:2] != ("refused", "NoRoom"):
                    self.assertEqual(told, outcome(plain, deed))
                self.assertEqual(look(store), look(plain))
        self.assertGreater(lacked, 20)

    def test_an_opened_image_may_be_laid_anew(self):
        for laying in layings_of(13) + [BROAD]:
            new = self.moved(store_of((8, FULL), 400, WORDS, OUTSIDE), laying)
            self.assertEqual([new.told(q) for q in REGISTERS], [16, "pair", "none", "no", 5, ("sign", 127), "pair", -256])


if __name__ == "__main__":
    unittest.main()
