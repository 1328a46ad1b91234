"""Points 4, 5, 6 and 11 to 14 by rows of deeds: a store beside the model of one, and beside a plain store."""

import unittest

from markwords.plain import PlainStore
from markwords.store import Store, store_of
from tests.laid import LaidModel, layings_of, seen
from tests.walks import TWO_NUMBERS, by_chance, grows_too_far, outcome
from tests.worths import look

ROOMS = [0, 1, 2, 3, 5, 8, 12, 20, 40, 100, 400]


class BesideTheModel(unittest.TestCase):
    def walk(self, laying, room, seed, heavy):
        store, model = Store(laying, room), LaidModel(laying, room)
        ends = {}
        for deed in by_chance(seed, 120, heavy):
            if grows_too_far(model, deed):
                continue
            wanted = outcome(model, deed)
            self.assertEqual(outcome(store, deed), wanted, (laying, room, seed, deed))
            self.assertEqual(seen(store), seen(model), (laying, room, seed, deed))
            ends[wanted[:2] if wanted[0] == "refused" else "told"] = True
        return ends, store

    def test_all_is_as_in_the_model(self):
        met, sweeps, quick, slow = {}, 0, 0, 0
        for turn, bits in enumerate([8, 9, 10, 11, 12, 13, 16, 21, 31, 32]):
            for place, laying in enumerate(layings_of(bits)):
                for room in ROOMS[(turn + place) % 2::2]:
                    heavy = [[], ["pair"] * 9, TWO_NUMBERS * 2, ["set_first", "set_second"] * 6][(turn + place) % 4]
                    ends, store = self.walk(laying, room, 1000 * bits + 10 * room + place, heavy)
                    met.update(ends)
                    sweeps, quick, slow = sweeps + store.sweeps, quick + store.quick, slow + store.slow
        # The walks go everywhere that they are meant to go.
        self.assertEqual(len(met), 4, met)
        self.assertGreater(min(sweeps, quick, slow), 500)


class BesideAPlainStore(unittest.TestCase):
    def walk(self, laying, room, seed):
        store, plain = Store(laying, room), PlainStore()
        lacked = 0
        for deed in by_chance(seed, 150):
            if grows_too_far(plain, deed):
                continue
            told = outcome(store, deed)
            if told[:2] == ("refused", "NoRoom"):
                # Nothing was done in the one, so nothing is done in the other.
                lacked += 1
            else:
                self.assertEqual(told, outcome(plain, deed), (laying, room, seed, deed))
            self.assertEqual(look(store), look(plain), (laying, room, seed, deed))
        return lacked

    def test_the_same_is_told_and_refused(self):
        lacked = 0
        for bits in (8, 9, 13, 32):
            for place, laying in enumerate(layings_of(bits)):
                for room in (0, 6, 30, 400):
                    lacked += self.walk(laying, room, 77 * bits + room + place)
        self.assertGreater(lacked, 300)

    def test_nothing_lacks_where_there_is_room(self):
        for seed in range(20):
            for laying in layings_of(32):
                self.assertEqual(self.walk(laying, 400, seed), 0)

    def test_sweeps_between_are_not_seen(self):
        for bits in (9, 20):
            for laying in layings_of(bits):
                store, plain = Store(laying, 400), PlainStore()
                for step, deed in enumerate(by_chance(bits, 200)):
                    if step % 3 == 0:
                        store.sweep()
                    if not grows_too_far(plain, deed):
                        told = outcome(store, deed)
                        if told[:2] != ("refused", "NoRoom"):
                            self.assertEqual(told, outcome(plain, deed))
                        self.assertEqual(look(store), look(plain))


class MadeOfParts(unittest.TestCase):
    def test_a_store_made_of_another_s_parts_goes_on_as_it_does(self):
        for bits in (8, 10, 16):
            for place, laying in enumerate(layings_of(bits)):
                store = Store(laying, 30)
                for step, deed in enumerate(by_chance(bits + place, 200, ["pair"] * 4)):
                    if grows_too_far(store, deed):
                        continue
                    if step % 5 == 0:
                        other = store_of(laying, 30, store.words(), store.outside())
                        self.assertEqual((other.quick, other.slow, other.sweeps), (0, 0, 0))
                        counts = (store.quick, store.slow, store.sweeps)
                    self.assertEqual(outcome(other, deed), outcome(store, deed))
                    self.assertEqual((other.words(), other.outside()), (store.words(), store.outside()))
                    gone = (store.quick - counts[0], store.slow - counts[1], store.sweeps - counts[2])
                    self.assertEqual((other.quick, other.slow, other.sweeps), gone)


if __name__ == "__main__":
    unittest.main()
