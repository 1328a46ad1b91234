"""Points 4 and 15: the judge of images."""

import copy
import itertools
import random
import unittest

from markwords.images import image_fault, image_of
from markwords.store import Store
from tests.judged import OUTSIDE, WORDS, F, P, fault_of, image
from tests.laid import FULL, LEAN, OPEN, TIGHT_FAR, layings_of, load_bits, most_words, word_for
from tests.walks import by_chance, grows_too_far, outcome

BEYOND = [-1, -2, 256, 257, 10 ** 59, -(10 ** 59), 10 ** 60, 2 ** 300, -(2 ** 300)]
FAULTS = ["laying", "room", "word", "head", "end", "limb", "small", "kind", "address"]
# Where the things stand in the outside that is written by hand, and where in the whole image words stand for worths.
HEADS = [0, 2, 5, 8]
WORTH_PLACES = [0, 1, 2, 3, 4, 5, 6, 7, 11, 12, 17, 18]


def with_word(k, word, old=None):
    """The image with another word at a place, counted on behind the eight in the outside."""
    laying, room, words, outside = old or image()
    whole = words + outside
    whole[k] = word
    return (laying, room, whole[:8], whole[8:])


class Case(unittest.TestCase):
    def check(self, handed, wanted):
        kept = copy.deepcopy(handed)
        told = image_fault(handed)
        self.assertEqual(told, wanted, handed)
        self.assertIs(type(told), type(wanted))
        self.assertEqual(handed, kept)


class Right(Case):
    def test_by_hand(self):
        self.check(image(), None)
        self.check(image([7] * 8, []), None)
        self.check(image([7] * 8, [], 0), None)
        self.check(image(room=11), None)

    def test_images_of_stores(self):
        for bits in (8, 9, 11, 13, 32):
            for place, laying in enumerate(layings_of(bits)):
                for room in (0, 3, 17, 400):
                    store = Store(laying, room)
                    for step, deed in enumerate(by_chance(bits + room + place, 60, ["pair"] * 5)):
                        if not grows_too_far(store, deed):
                            outcome(store, deed)
                        if step % 7 == 0:
                            store.sweep()
                        self.check(image_of(store), None)


class Laying(Case):
    def test_each_fault_of_a_laying(self):
        wrong = [
            (7, FULL), (33, FULL), (0, FULL), (-8, FULL), (10 ** 60, FULL), (8, FULL[:4]), (8, FULL + FULL[:1]), (8, []),
            (8, LEAN), (9, [("one", 8, 7)] + FULL[:4]), (8, [("one", 3, 5)] + FULL[:4]), (8, [("one", 8, 7)] + FULL[:4]),
            (8, [("one", 0, 0)] + FULL[:4]), (8, [("one", 3, 8)] + FULL[:4]), (8, [("ones", 3, 7)] + FULL[:4]),
            (8, [("one", 10 ** 60, 7)] + FULL[:4]), (8, [("one", 3, -(10 ** 60))] + FULL[:4]),
            (32, FULL[:2] + [("far", 30, 3)] + FULL[3:]),
        ]
        for laying in wrong:
            self.check(image(laying=laying), ("laying", 0))
            self.check(image([7] * 8, [], laying=laying), ("laying", 0))

    def test_goes_ahead_of_all_others(self):
        for words, outside, room in (([], [], 400), ([7] * 9, [], 1), (WORDS, OUTSIDE, -1), ([-1] * 8, [0], 401)):
            self.check(image(words, outside, room, (7, FULL)), ("laying", 0))


class Room(Case):
    def test_rooms(self):
        for room in (-1, 401, 402, -400, 10 ** 60, -(10 ** 60)):
            self.check(image(room=room), ("room", 0))
            self.check(image([7] * 8, [], room), ("room", 0))
        for room in (0, 1, 10, 11, 12, 399, 400):
            self.check(image([7] * 8, [], room), None)
            self.check(image(room=room), ("room", 0) if room < 11 else None)

    def test_words_are_eight(self):
        for count in (0, 1, 7, 9, 10, 100, 400, 5000):
            self.check(image([7] * count, []), ("room", 0))
        self.check(image(WORDS[:7]), ("room", 0))
        self.check(image(WORDS + [7]), ("room", 0))

    def test_more_words_outside_than_may_be(self):
        for bits in (8, 9, 10, 11, 32):
            for laying in layings_of(bits):
                none = word_for(laying, "none")
                most = most_words(laying, 400)
                number = [4, 2 ** bits - 1]
                even = number * (most // 2)
                for outside in (even, [1, none, none] + number * ((most - 3) // 2)):
                    self.check(image([none] * 8, outside, laying=laying), None)
                    self.check(image([none] * 8, outside, len(outside), laying), None)
                    self.check(image([none] * 8, outside, len(outside) - 1, laying), ("room", 0))
                for outside in (even + [1, none, none], even + number, even + [4] * 1000):
                    self.check(image([none] * 8, outside, laying=laying), ("room", 0))

    def test_each_of_the_three_bounds_by_itself(self):
        # 8 words by far loads, 16 by pair loads.
        laying = (8, TIGHT_FAR)
        self.assertEqual([2 ** load_bits(laying, kind) for kind in ("far", "pair")], [8, 16])
        self.check(image([7] * 8, [1, 7, 7, 1, 7, 7], laying=laying), None)
        self.check(image([7] * 8, [1, 7, 7, 1, 7, 7, 1, 7, 7], laying=laying), ("room", 0))
        laying = (8, [("pair", 5, 31), ("small", 2, 1), ("sign", 1, 0), ("far", 3, 3), ("one", 4, 7)])
        self.check(image([7] * 8, [4, 255, 1, 7, 7, 1, 7, 7], laying=laying), None)
        self.check(image([7] * 8, [1, 7, 7, 1, 7, 7, 1, 7, 7], laying=laying), ("room", 0))

    def test_goes_ahead_of_what_is_behind_it(self):
        for word in BEYOND:
            self.check(image([word] * 7, OUTSIDE), ("room", 0))
            self.check(image([word] * 8, OUTSIDE, 10), ("room", 0))
            self.check(image([word] * 8, OUTSIDE, 401), ("room", 0))


class Word(Case):
    def test_each_place(self):
        for k in range(19):
            for word in BEYOND:
                self.check(with_word(k, word), ("word", k))

    def test_the_first_of_several(self):
        for k, other in itertools.combinations(range(19), 2):
            self.check(with_word(k, 256, with_word(other, -1)), ("word", k))
            self.check(with_word(k, -(10 ** 60), with_word(other, 10 ** 60)), ("word", k))

    def test_the_greatest_word_is_one(self):
        for bits in range(8, 33):
            laying = (bits, FULL)
            outside = [4, 2 ** bits - 1]
            self.check(image([7] * 8, outside, laying=laying), None)
            self.check(image([7] * 8, [4, 2 ** bits], laying=laying), ("word", 9))
            self.check(image([2 ** bits - 3] + [7] * 7, [], laying=laying), ("address", 0))
            self.check(image([2 ** bits - 1] + [7] * 7, [], laying=laying), ("kind", 0))
            self.check(image([2 ** bits] + [7] * 7, [], laying=laying), ("word", 0))

    def test_goes_ahead_of_what_is_behind_it(self):
        for wrong in ([0] + OUTSIDE[1:], OUTSIDE[:10], [4, 0] + OUTSIDE[2:], [4, 1] + OUTSIDE[2:]):
            for k in range(1, 8 + len(wrong)):
                if k > 9 or k < 8:
                    self.check(with_word(k, 256, image([31] + WORDS[1:], wrong)), ("word", k))


class Things(Case):
    def test_every_word_as_a_head(self):
        for word in range(256):
            outside = [word] + [255] * 31
            fault = image_fault(image([7] * 8, outside))
            if word == 1 or word >= 4 and word % 2 == 0:
                self.assertNotEqual(fault, ("head", 8), word)
                self.assertEqual(fault == ("end", 8), word // 4 > 31, word)
            else:
                self.assertEqual(fault, ("head", 8), word)

    def test_heads_at_each_place(self):
        for at in HEADS:
            for word in (0, 2, 3, 5, 7, 9, 11, 255):
                self.check(with_word(8 + at, word), ("head", 8 + at))

    def test_ends(self):
        for at in HEADS:
            for size in range(at + 1, at + (3 if OUTSIDE[at] in (1, 10) else 2)):
                self.check(image(outside=OUTSIDE[:size]), ("end", 8 + at))
            for word in (52, 54, 252, 254):
                self.check(with_word(8 + at, word), ("end", 8 + at))
        for outside in ([1], [1, 7], [4], [6], [8, 5], [8], [10, 0], [252] + [1] * 31):
            self.check(image([7] * 8, outside), ("end", 8))
            if len(outside) < 32:
                self.check(image([7] * 8, [4, 16] + outside[:30]), ("end", 10))

    def test_last_limbs(self):
        for outside in ([4, 0], [6, 0], [8, 5, 0], [10, 0, 0], [12, 1, 1, 0]):
            self.check(image([7] * 8, outside), ("limb", 8))
            self.check(image([7] * 8, [1, 7, 7, 4, 99] + outside), ("limb", 13))
        for outside in ([8, 0, 1], [10, 0, 1], [12, 0, 0, 1], [4, 16], [12, 0, 255, 1]):
            self.check(image([7] * 8, outside), None)

    def test_small_numbers(self):
        for bits in (8, 9, 10, 16, 32):
            for laying in layings_of(bits):
                none, half = word_for(laying, "none"), 2 ** (load_bits(laying, "small") - 1)
                for head, limb, wanted in (
                    (4, 1, ("small", 8)), (6, 1, ("small", 8)), (4, half - 1, ("small", 8)), (4, half, None),
                    (6, half - 1, ("small", 8)), (6, half, ("small", 8)), (6, half + 1, None), (4, 2 ** bits - 1, None),
                ):
                    self.check(image([none] * 8, [head, limb], laying=laying), wanted)
                    wanted = wanted and ("small", 11)
                    self.check(image([none] * 8, [1, none, none, head, limb], laying=laying), wanted)
                self.check(image([none] * 8, [8, half - 1, 1], laying=laying), None)
                self.check(image([none] * 8, [10, half, 1], laying=laying), None)

    def test_the_first_thing_goes_ahead(self):
        # Each of these is wrong by one thing, and as long as that is to be: what is behind it is looked at later.
        wrong = {"head": [0, 9], "limb": [8, 5, 0], "small": [6, 16], "end": [8, 1]}
        for one, other in itertools.product(("head", "limb", "small"), wrong):
            self.check(image([7] * 8, wrong[one] + wrong[other]), (one, 8))
            self.check(image([7] * 8, [4, 99] + wrong[one] + [1, 7, 7] + wrong[other]), (one, 10))
        for other in wrong:
            self.check(image([7] * 8, [1, 7, 7] + wrong[other]), (other, 11))

    def test_goes_ahead_of_kinds_and_addresses(self):
        for words in ([31] * 8, [F(1)] * 8, [P(9)] * 8):
            for outside, fault in (([0], "head"), ([1, 7], "end"), ([4, 0], "limb"), ([4, 15], "small")):
                self.check(image(words, outside), (fault, 8))
                self.check(image(words, [1, 31, F(0)] + outside), (fault, 11))

    def test_limbs_are_not_looked_at(self):
        self.check(image([7] * 8, [12, 31, 255, 31, 4, 31, 6, 255]), None)
        self.check(image([7] * 8, [8, F(9), P(9)]), None)
        self.check(image([3] * 8, [8, 7, 13, 4, 23], laying=(8, OPEN)), None)


class KindsAndAddresses(Case):
    def test_kinds_at_each_place(self):
        for k in WORTH_PLACES:
            for word in (31, 39, 255):
                self.check(with_word(k, word), ("kind", k))

    def test_words_of_no_kind(self):
        for bits in range(9, 33):
            for word in (256, 258, 2 ** bits - 2, 31, 2 ** bits - 1):
                for k in range(8):
                    self.check(image([7] * k + [word] + [7] * (7 - k), [], laying=(bits, FULL)), ("kind", k))
                self.check(image([7] * 8, [1, 7, word], laying=(bits, FULL)), ("kind", 10))
        for word in (7, 13, 15, 23, 255, 51):
            self.check(image([3, 3, word, 3, 3, 3, 3, 3], [], laying=(8, OPEN)), ("kind", 2))
            self.check(image([3] * 8, [1, word, word], laying=(8, OPEN)), ("kind", 9))

    def test_words_of_each_kind(self):
        for word in (0, 254, 1, 129, 249, 7, 15, 23, F(0), P(2), F(5), P(8)):
            for k in WORTH_PLACES:
                self.check(with_word(k, word), None)

    def test_addresses_at_each_place(self):
        for k in WORTH_PLACES:
            for address in range(32):
                self.check(with_word(k, F(address)), None if address in (0, 5) else ("address", k))
                self.check(with_word(k, P(address)), None if address in (2, 8) else ("address", k))

    def test_nothing_outside(self):
        for k in range(8):
            for word in (F(0), P(0), F(31), P(31)):
                self.check(image([7] * k + [word] + [7] * (7 - k), []), ("address", k))

    def test_the_first_of_several(self):
        for k, other in itertools.combinations(WORTH_PLACES, 2):
            for one, two in itertools.product((31, F(2), P(0), F(31)), repeat=2):
                wanted = "kind" if one == 31 else "address"
                self.check(with_word(k, one, with_word(other, two)), (wanted, k))


class ByChance(Case):
    def base(self, chance, seed):
        laying = chance.choice(layings_of(chance.choice((8, 8, 9, 10, 13, 32))))
        store = Store(laying, chance.choice((10, 30, 100, 400)))
        for deed in by_chance(seed, chance.choice((5, 20, 40)), ["pair"] * 6):
            if not grows_too_far(store, deed):
                outcome(store, deed)
        return image_of(store)

    def changed(self, chance, old):
        """The image with one change, which may make it wrong."""
        (bits, marks), room, words, outside = copy.deepcopy(old)
        turn = chance.choice(["word", "word", "word", "limb", "cut", "put", "room", "count", "laying", "beyond"])
        new = chance.choice([chance.randrange(2 ** bits), chance.randrange(64), 0, 1, 4, 5, 6, 7, 2 ** bits - 1])
        row = words if chance.random() < 0.3 or not outside else outside
        if turn == "word":
            row[chance.randrange(len(row))] = new
        elif turn == "beyond":
            row[chance.randrange(len(row))] = chance.choice([-1, 2 ** bits, 10 ** 60, -(10 ** 60)])
        elif turn == "limb" and outside:
            outside[chance.randrange(len(outside))] = 0
        elif turn == "cut" and outside:
            outside.pop()
        elif turn == "put":
            outside.insert(chance.randint(0, len(outside)), new)
        elif turn == "room":
            room = chance.choice([-1, 0, 401, len(outside), len(outside) - 1, 10 ** 60])
        elif turn == "count":
            words = chance.choice([words + [new], words[:7], words, [new] * 8])
        elif turn == "laying":
            place = chance.randrange(5)
            marks[place] = marks[place][:1] + (chance.randint(0, bits), chance.choice([0, 1, 5, new, -1]))
        return ((bits, marks), room, words, outside)

    def test_one_or_two_changes(self):
        chance = random.Random(15)
        met = dict.fromkeys(FAULTS + [None], 0)
        for seed in range(250):
            base = self.base(chance, seed)
            self.check(base, None)
            for turn in range(24):
                handed = self.changed(chance, base)
                if turn % 2:
                    handed = self.changed(chance, handed)
                wanted = fault_of(handed)
                self.check(handed, wanted)
                met[wanted and wanted[0]] += 1
        self.assertGreater(min(met.values()), 20, met)

    def test_outsides_by_chance(self):
        chance = random.Random(16)
        met = dict.fromkeys(FAULTS[3:] + [None], 0)
        for turn in range(6000):
            laying = chance.choice(layings_of(8))
            none = word_for(laying, "none")
            outside = []
            while len(outside) < chance.randint(0, 7):
                count = chance.randint(1, 2)
                limbs = [chance.choice([0, 1, 15, 16, 17, 255]) for limb in range(count)]
                words = [chance.choice([none, 5, 7, 11, 21, chance.randrange(256)]) for word in range(2)]
                number = [chance.choice([4, 4, 4, 3]) * count + chance.choice([0, 2])] + limbs
                outside += chance.choice([number, [1] + words])
            del outside[chance.choice([8, 8, 8, 7, 5]):]
            handed = image([none] * 8, outside, laying=laying)
            wanted = fault_of(handed)
            self.check(handed, wanted)
            met[wanted and wanted[0]] += 1
        self.assertGreater(min(met.values()), 20, met)


if __name__ == "__main__":
    unittest.main()
