"""Points 2 and 4: what is promised over the whole program."""

import copy
import random
import unittest

from markwords.anew import laid_anew
from markwords.books import answer, read_image, shown_image
from markwords.choices import best, made
from markwords.errors import NoRoom
from markwords.images import alike, image_fault, image_of, opened
from markwords.layings import laying_fault
from markwords.limbs import rows_of
from markwords.runs import go, moved_run, plain_run, run
from markwords.scripts import formed, read, read_whole, shown
from markwords.store import Store, store_of
from tests.judged import OUTSIDE, WORDS, image
from tests.laid import FULL, OPEN, LaidModel, is_right, layings_of, seen
from tests.scripted import ALLOWED, Reaching, counts_of, model_go, runs_by_chance
from tests.worths import REGISTERS

ROOMS = [0, 1, 2, 3, 5, 9, 14, 22, 40, 75, 150, 400]


def chosen_layings(chance, count):
    """Right layings of any bits and widths."""
    layings = []
    while len(layings) < count:
        laying = made(chance.randint(8, 32), [chance.randint(1, 6) for kind in range(5)])
        if laying is not None:
            layings.append(laying)
    return layings


class EachScript(unittest.TestCase):
    """Under each right laying and with each room, a script tells and ends as with plain worths, but where room lacks."""

    def check(self, script, laying, room, end, news):
        told = run(script, laying, room, ALLOWED)
        model = LaidModel(laying, room)
        self.assertEqual(told[:2], model_go(script, model, ALLOWED), (script, laying, room))
        self.assertEqual(told[2], counts_of(model))
        # It ends for want of room just where what is reached and what is needed do not find room together.
        self.assertEqual(told[:2], model_go(script, Reaching(laying, room), ALLOWED), (script, laying, room))
        if told[0][0] == "room":
            self.assertEqual(told[1], news[:len(told[1])])
        else:
            self.assertEqual(told[:2], (end, news))
        return told[0][0]

    def test_under_many_layings_with_many_rooms(self):
        chance = random.Random(11)
        met = {}
        layings = [laying for bits in range(8, 33) for laying in layings_of(bits)] + chosen_layings(chance, 100)
        self.assertTrue(all(is_right(laying) for laying in layings))
        for script, end, news in runs_by_chance(20000, 260, ["pair", "over", "rest", "set_first", "set_second"]):
            self.assertEqual(plain_run(script, ALLOWED), (end, news))
            for turn in range(3):
                sort = self.check(script, chance.choice(layings), chance.choice(ROOMS), end, news)
                met[sort] = met.get(sort, 0) + 1
        self.assertEqual(set(met), {"end", "kind", "nought", "room", "far"})
        self.assertGreater(met["room"], 80)

    def test_the_same_script_under_each_laying_and_room(self):
        script = [
            ("number", 0, 1), ("number", 1, 3), ("number", 2, 30), ("times", 0, 0, 1), ("pair", 3, 0, 3), ("tell", 0),
            ("less", 2, 2, 1),
            ("below", 1, 2, 3), ("first", 4, 3), ("second", 3, 3), ("tell", 4), ("kind", 3, "pair", 8),
            ("over", 4, 4, 2), ("tell", 4),
            ("rest", 4, 4, 7), ("end",),
        ]
        end, news = plain_run(script, ALLOWED)
        self.assertEqual(end, ("kind", 14, 2))
        self.assertEqual(news, [3 ** k for k in range(1, 10)] + [3 ** k for k in range(9, 0, -1)] + [1])
        for bits in range(8, 33):
            for laying in layings_of(bits):
                for room in ROOMS:
                    sort = self.check(script, laying, room, end, news)
                    if room == 400 and bits >= 11:
                        self.assertEqual(sort, "kind")

    def test_best_layings_too(self):
        chance = random.Random(12)
        layings = [best(bits, [chance.randint(0, 9) for kind in range(5)]) for bits in range(8, 33)]
        for script, end, news in runs_by_chance(40000, 80):
            laying = chance.choice(layings)
            self.assertIsNone(laying_fault(laying))
            self.check(script, laying, 400, end, news)


class AtAnyMoment(unittest.TestCase):
    """A store laid anew under another laying, at any moment, goes on as the old one would, but for room."""

    def test_the_rest_of_a_script(self):
        chance = random.Random(13)
        layings = [laying for bits in (9, 12, 16, 32) for laying in layings_of(bits)]
        told = {"as the old one": 0, "no room": 0}
        for script, end, news in runs_by_chance(60000, 120):
            one, other = chance.choice(layings), chance.choice(layings)
            store = Store(one, 400)
            go(script, store, chance.choice([3, 8, 15, 30]))
            try:
                new = laid_anew(store, other, 400)
            except NoRoom:
                told["no room"] += 1
                continue
            self.assertTrue(alike(store, new))
            # Products of what stands there already might grow beyond all bounds.
            again = [("plus",) + row[1:] if row[0] == "times" else row for row in script]
            old, later = go(again, store, 60), go(again, new, 60)
            if "room" not in (old[0][0], later[0][0]):
                told["as the old one"] += 1
                self.assertEqual(later, old)
                self.assertTrue(alike(store, new))
        self.assertGreater(told["as the old one"], 60)

    def test_ahead_of_each_row(self):
        script = [
            ("number", 0, 2), ("number", 1, 1), ("number", 3, 20), ("pair", 2, 0, 2), ("times", 0, 0, 0),
            ("rest", 4, 0, 3), ("tell", 4),
            ("less", 3, 3, 1), ("first", 5, 2), ("tell", 5), ("below", 1, 3, 12), ("end",), ("number", 6, 10 ** 12),
            ("rest", 0, 0, 6),
            ("jump", 3),
        ]
        end, news = plain_run(script, ALLOWED)
        self.assertEqual((end, len(news)), (("end",), 38))
        layings = [(32, FULL), (13, OPEN), (16, OPEN), (20, FULL)]
        for place in range(200):
            self.assertEqual(moved_run(script, layings, 400, ALLOWED, [False] * place + [True]), (end, news))
        self.assertEqual(moved_run(script, layings, 400, ALLOWED, [True] * 400), (end, news))


class NothingIsChanged(unittest.TestCase):
    """Point 2: what is handed in stays, what is told is the asker's own, what tells nothing gives None."""

    def lists_in(self, told):
        """All lists in what is told."""
        if isinstance(told, (list, tuple)):
            return [told] * isinstance(told, list) + [found for part in told for found in self.lists_in(part)]
        return []

    def test_what_is_handed_in_stays_and_lists_are_new(self):
        laying, room = (9, list(FULL)), 40
        script = [("number", 0, 99), ("pair", 1, 0, 0), ("tell", 1), ("end",)]
        layings, when = [(8, list(FULL)), (16, list(OPEN))], [True, False, True]
        text, image_text = shown(script), shown_image(image())
        words, outside = list(WORDS), list(OUTSIDE)
        for ask, parts in (
            (laying_fault, [laying]), (made, [16, [1, 3, 3, 3, 3]]), (best, [16, [5, 4, 3, 2, 1]]),
            (rows_of, [laying, 10 ** 9]),
            (image_fault, [image()]), (opened, [image()]), (store_of, [(8, list(FULL)), 400, words, outside]),
            (Store, [laying, room]),
            (formed, [script]), (shown, [script]), (read, [text]), (read_whole, ["12", 3]), (plain_run, [script, 9]),
            (run, [script, laying, room, 9]), (moved_run, [script, layings, room, 9, when]), (shown_image, [image()]),
            (read_image, [image_text]), (answer, [text, image_text, 9]),
        ):
            kept = copy.deepcopy(parts)
            one, other = ask(*parts), ask(*parts)
            self.assertEqual(parts, kept)
            if isinstance(one, Store):
                self.assertEqual(seen(one), seen(other))
                one, other = (one.laying, one.words(), one.outside()), (other.laying, other.words(), other.outside())
            self.assertEqual(one, other)
            lists = self.lists_in(one) + self.lists_in(other) + self.lists_in(parts)
            self.assertEqual(len({id(found) for found in lists}), len(lists), ask)

    def test_stores_that_are_asked_stay(self):
        store = opened(image())
        before = seen(store)
        other = opened(image())
        image_of(store)
        alike(store, other)
        laid_anew(store, (16, list(OPEN)), 400)
        store.words().clear()
        store.outside().clear()
        for q in REGISTERS:
            store.kind(q)
            store.told(q)
            for p in REGISTERS:
                store.same(q, p)
        self.assertEqual(seen(store), before)

    def test_a_store_s_lists_are_apart_from_an_image_s_that_was_read(self):
        told = read_image(shown_image(image()))
        store = opened(told)
        told[0][1].clear()
        told[2].clear()
        told[3].clear()
        self.assertEqual(image_of(store), image())

    def test_what_tells_nothing_gives_none(self):
        store = opened(image())
        self.assertIsNone(store.sweep())
        for name, parts in (
            ("number", (0, 5)), ("number", (0, 500)), ("sign", (0, 5)), ("one", (0, "no")), ("copy", (3, 4)),
            ("plus", (3, 4, 4)),
            ("pair", (5, 3, 3)), ("first", (0, 5)), ("second", (0, 5)), ("set_first", (5, 0)), ("set_second", (5, 0)),
        ):
            self.assertIsNone(getattr(store, name)(*parts))


if __name__ == "__main__":
    unittest.main()
