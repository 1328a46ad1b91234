"""Points 2 and 16: a store's image, and stores that are opened of images."""

import copy
import unittest

from markwords.errors import Faulty
from markwords.images import image_fault, image_of, opened
from markwords.plain import PlainStore
from markwords.store import Store, store_of
from tests.judged import OUTSIDE, WORDS, F, P, image
from tests.laid import FULL, OPEN, layings_of, seen, word_for
from tests.walks import by_chance, grows_too_far, outcome
from tests.worths import REGISTERS, look, refusal


class Opened(unittest.TestCase):
    def test_a_store_with_just_these_words(self):
        for room in (11, 12, 400):
            handed = image(room=room)
            store = opened(handed)
            self.assertIsInstance(store, Store)
            self.assertEqual(seen(store), {
                "laying": (8, FULL), "room": room, "words": WORDS, "outside": OUTSIDE, "counts": (0, 0, 0),
            })
            self.assertEqual(handed, image(room=room))
            told = [16, "pair", "none", "no", 5, ("sign", 127), "pair", -256]
            self.assertEqual([store.told(q) for q in REGISTERS], told)

    def test_goes_on_by_itself(self):
        handed = image()
        one, other = opened(handed), opened(handed)
        one.number(2, 100)
        one.set_second(1, 2)
        one.plus(3, 4, 4)
        one.sweep()
        self.assertEqual(handed, image())
        self.assertEqual(seen(other), seen(opened(image())))
        self.assertEqual((one.quick, one.slow, one.sweeps), (1, 0, 1))
        handed[0][1].clear()
        handed[2].clear()
        handed[3][0] = 9
        self.assertEqual(seen(other), seen(opened(image())))
        self.assertEqual((other.told(0), other.kind(1)), (16, "pair"))

    def test_refused_with_its_fault(self):
        for handed, word, k in (
            (image(laying=(7, FULL)), "laying", 0), (image(laying=(8, FULL[:4])), "laying", 0),
            (image(room=10), "room", 0), (image(room=-1), "room", 0), (image(WORDS[1:]), "room", 0),
            (image([256] + WORDS[1:]), "word", 0), (image(outside=OUTSIDE[:10] + [-1]), "word", 18),
            (image(outside=[0] + OUTSIDE[1:]), "head", 8), (image(outside=OUTSIDE[:10]), "end", 16),
            (image(outside=[4, 0] + OUTSIDE[2:]), "limb", 8), (image(outside=[4, 1] + OUTSIDE[2:]), "small", 8),
            (image(WORDS[:7] + [31]), "kind", 7), (image(outside=OUTSIDE[:9] + [255, 7]), "kind", 17),
            (image(WORDS[:2] + [F(1)] + WORDS[3:]), "address", 2), (image(outside=OUTSIDE[:10] + [P(0)]), "address", 18),
            (image([10 ** 60] * 8), "word", 0), (image(room=10 ** 60), "room", 0),
        ):
            kept = copy.deepcopy(handed)
            error = refusal(self, Faulty, opened, handed)
            self.assertEqual((error.word, error.k), (word, k))
            self.assertEqual(image_fault(handed), (word, k))
            self.assertEqual(handed, kept)

    def test_an_opened_image_of_a_store_goes_on_as_it_does(self):
        for bits in (8, 12, 32):
            for place, laying in enumerate(layings_of(bits)):
                store, plain = Store(laying, 60), PlainStore()
                for step, deed in enumerate(by_chance(7 * bits + place, 90, ["pair"] * 3)):
                    if grows_too_far(plain, deed):
                        continue
                    if step % 4 == 0:
                        store = opened(image_of(store))
                        self.assertEqual((store.quick, store.slow, store.sweeps), (0, 0, 0))
                    told = outcome(store, deed)
                    if told[:2] != ("refused", "NoRoom"):
                        self.assertEqual(told, outcome(plain, deed))
                    self.assertEqual(look(store), look(plain))


class ImageOf(unittest.TestCase):
    def test_is_the_store_s_own(self):
        for bits in (8, 20, 32):
            for laying in layings_of(bits):
                store = Store(laying, 25)
                none = word_for(laying, "none")
                self.assertEqual(image_of(store), (laying, 25, [none] * 8, []))
                self.assertIs(type(image_of(store)), tuple)
                store.number(0, 2 ** (bits - 1))
                store.pair(1, 0, 2)
                words = [word_for(laying, ("far", 0)), word_for(laying, ("pair", 2))] + [none] * 6
                outside = [4, 2 ** (bits - 1), 1, word_for(laying, ("far", 0)), none]
                self.assertEqual(image_of(store), (laying, 25, words, outside))
        self.assertEqual(image_of(store_of((8, FULL), 77, WORDS, OUTSIDE)), image(room=77))
        self.assertEqual(image_of(opened(image())), image())

    def test_what_is_not_reached_is_in_it(self):
        store = Store((8, list(FULL)), 400)
        store.number(0, 99)
        store.number(0, 98)
        self.assertEqual(image_of(store), image([F(2)] + [7] * 7, [4, 99, 4, 98]))
        self.assertEqual(store.sweeps, 0)

    def test_its_lists_are_the_asker_s_own(self):
        store = opened(image())
        before = seen(store)
        one, other = image_of(store), image_of(store)
        lists = [one[0][1], one[2], one[3], other[0][1], other[2], other[3], store.laying[1]]
        self.assertEqual(len({id(part) for part in lists}), len(lists))
        one[0][1][:] = OPEN
        one[2].clear()
        one[3].reverse()
        self.assertEqual(seen(store), before)
        self.assertEqual(other, image())
        store.number(0, 100)
        store.sweep()
        self.assertEqual(other, image())


if __name__ == "__main__":
    unittest.main()
