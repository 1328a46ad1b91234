"""Points 2 and 20: plain runs, runs, and scripts gone in a store as it stands."""

import copy
import itertools
import unittest

from markwords.plain import PlainStore
from markwords.runs import go, plain_run, run
from markwords.store import Store
from tests.laid import FULL, OPEN, LaidModel, layings_of, seen
from tests.scripted import ALLOWED, Plain, counts_of, model_go, runs_by_chance
from tests.walks import by_chance, grows_too_far, outcome
from tests.worths import KINDS, REGISTERS, THREE, look

LAYINGS = [(8, FULL), (9, OPEN), (16, OPEN), (32, FULL)]
END = ("end",)
# Puts a worth of each kind into register r.
OF_KIND = {
    "number": lambda r: [("number", r, 3)], "sign": lambda r: [("sign", r, 3)], "one": lambda r: [("one", r, "no")],
    "pair": lambda r: [("pair", r, r, r)],
}


class Case(unittest.TestCase):
    def check(self, script, end, news, most=ALLOWED, room=400):
        """The plain run, runs under several layings, and go in each sort of store, all end so and tell so."""
        kept = copy.deepcopy(script)
        told = plain_run(script, most)
        self.assertEqual(told, (end, news))
        self.assertEqual([type(part) for part in told], [tuple, list])
        self.assertEqual([type(worth) for worth in told[1]], [type(worth) for worth in news])
        self.assertEqual(go(script, PlainStore(), most), (end, news))
        for laying in LAYINGS:
            store = Store(laying, room)
            self.assertEqual(go(script, store, most), (end, news), laying)
            told = run(script, laying, room, most)
            self.assertEqual(told, (end, news, counts_of(store)), laying)
            self.assertEqual([type(part) for part in told], [tuple, list, tuple])
        self.assertEqual(script, kept)

    def check_room(self, script, laying, room, end, news, counts, most=ALLOWED):
        kept = copy.deepcopy((script, laying))
        self.assertEqual(run(script, laying, room, most), (end, news, counts))
        store = Store(laying, room)
        self.assertEqual(go(script, store, most), (end, news))
        self.assertEqual(counts_of(store), counts)
        self.assertEqual((script, laying), kept)


class Rows(Case):
    def test_number_sign_one_copy(self):
        for n in (0, -7, 15, 16, 2 ** 70, -(10 ** 59)):
            self.check([("number", 5, n), ("copy", 0, 5), ("tell", 0), ("tell", 5), END], END, [n, n])
        for k in (0, 64, 127):
            self.check([("sign", 7, k), ("tell", 7), ("copy", 1, 7), ("tell", 1), END], END, [("sign", k)] * 2)
        for text in THREE:
            self.check([("one", 3, text), ("copy", 4, 3), ("tell", 4), ("tell", 3), END], END, [text] * 2)

    def test_deeds_of_two_numbers(self):
        for n, m in itertools.product((17, -17, 5, -5, 2 ** 40, 0), (5, -5, 3, 2 ** 33, -(2 ** 33))):
            rows = [("number", 1, n), ("number", 2, m)]
            wanted = {"plus": n + m, "less": n - m, "times": n * m, "over": n // m, "rest": n % m}
            for word, what in wanted.items():
                self.check(rows + [(word, 0, 1, 2), ("tell", 0), ("tell", 1), ("tell", 2), END], END, [what, n, m])
                self.check(rows + [(word, 1, 1, 2), ("tell", 1), END], END, [what])

    def test_pairs(self):
        base = [("number", 0, 4), ("sign", 1, 5), ("pair", 2, 0, 1)]
        self.check(base + [("first", 3, 2), ("second", 4, 2), ("tell", 3), ("tell", 4), END], END, [4, ("sign", 5)])
        both = [("first", 3, 2), ("tell", 3), ("second", 3, 2), ("tell", 3), END]
        self.check(base + [("set_first", 2, 1)] + both, END, [("sign", 5)] * 2)
        self.check(base + [("set_second", 2, 0)] + both, END, [4, 4])
        ring = [("tell", 2), ("set_first", 2, 2), ("first", 0, 2), ("tell", 0), ("same", 0, 2, 9), END, ("tell", 1), END]
        self.check(base + ring, END, ["pair", "pair", ("sign", 5)])

    def test_tells_each_kind_in_order(self):
        script = [("number", 0, 3), ("sign", 1, 3), ("one", 2, "yes"), ("pair", 3, 0, 1), ("one", 4, "no")]
        script += [("number", 5, -(10 ** 30))] + [("tell", q) for q in (3, 2, 1, 0, 7, 4, 5, 3)] + [END]
        self.check(script, END, ["pair", "yes", ("sign", 3), 3, "none", "no", -(10 ** 30), "pair"])
        self.check([END], END, [])

    def test_below(self):
        for n, m in itertools.product((0, 1, -1, 15, 16, -17, 2 ** 40, -(2 ** 40)), repeat=2):
            script = [("number", 1, n), ("number", 2, m), ("below", 1, 2, 5), ("one", 0, "no"), ("jump", 6)]
            self.check(script + [("one", 0, "yes"), ("tell", 0), END], END, ["yes" if n < m else "no"])

    def test_same(self):
        puts = [("number", 0, 3), ("number", 0, 2 ** 40), ("sign", 0, 3), ("one", 0, "no"), ("one", 0, "none")]
        puts += [("pair", 0, 7, 7)]
        for one, other in itertools.product(puts, repeat=2):
            script = [one, (other[0], 1) + other[2:], ("same", 0, 1, 4), END, ("tell", 0), END]
            kind = {"number": one[2], "sign": ("sign", 3), "one": one[2], "pair": "pair"}[one[0]]
            self.check(script, END, [kind] if one == other and one[0] != "pair" else [])
            self.check([one, ("copy", 1, 0), ("same", 0, 1, 4), END, ("tell", 0), END], END, [kind])

    def test_kind(self):
        for kind, asked in itertools.product(KINDS, repeat=2):
            put = OF_KIND[kind](2)
            for back in (False, True):
                # To a row behind, and back to one ahead.
                if back:
                    script = [("jump", 3), ("tell", 7), END] + put + [("kind", 2, asked, 1), END]
                else:
                    script = put + [("kind", 2, asked, 3), END, ("tell", 7), END]
                self.check(script, END, ["none"] if kind == asked else [])
        self.check([("number", 0, 2 ** 70), ("kind", 0, "number", 3), END, ("tell", 0), END], END, [2 ** 70])

    def test_jumps(self):
        self.check([("jump", 2), ("tell", 1), ("jump", 4), ("tell", 2), END], END, [])
        script = [("jump", 3), ("number", 0, 8), ("jump", 5), ("tell", 0), ("jump", 1), ("tell", 0), END]
        self.check(script, END, ["none", 8])

    def test_a_loop(self):
        script = [
            ("number", 0, 0), ("number", 1, 1), ("number", 2, 5), ("below", 0, 2, 5), END, ("tell", 0),
            ("plus", 0, 0, 1), ("jump", 3),
        ]
        self.check(script, END, [0, 1, 2, 3, 4])


class Ends(Case):
    def ends_at(self, ahead, script, end, news):
        """The same end further on, behind so many rows that are gone, the last three by a jump over a row."""
        rows = [("tell", 7), ("jump", 3), END]
        shifted = {0: [], 1: [("tell", 7)], 3: rows}[ahead]
        self.check(shifted + script, end, (["none"] if ahead else []) + news)

    def test_wrong_kinds_of_two_numbers(self):
        for word in ("plus", "less", "times", "over", "rest", "below"):
            for one, other in itertools.product(KINDS, repeat=2):
                for first in (0, 1):
                    script = [("tell", 6)] * first + OF_KIND[one](1) + OF_KIND[other](2)
                    row = (word, 1, 2, 0) if word == "below" else (word, 0, 1, 2)
                    at = len(script)
                    script += [row, END]
                    wrong = [part for part, kind in ((1, one), (2, other)) if kind != "number"]
                    self.check(script, ("kind", at, wrong[0]) if wrong else END, ["none"] * first)

    def test_no_pair(self):
        for word in ("first", "second", "set_first", "set_second"):
            for kind, other in itertools.product(KINDS, repeat=2):
                script = OF_KIND[kind](1) + OF_KIND[other](2)
                row = (word, 1, 2) if word.startswith("set") else (word, 2, 1)
                self.check(script + [row, END], END if kind == "pair" else ("kind", 2, 1), [])

    def test_at_the_first_row(self):
        for word in ("plus", "less", "times", "over", "rest"):
            self.check([(word, 0, 1, 2), END], ("kind", 0, 1), [])
        for row in (("first", 0, 1), ("second", 0, 1), ("set_first", 0, 1), ("set_second", 0, 1), ("below", 0, 1, 1)):
            for ahead in (0, 1, 3):
                self.ends_at(ahead, [row, END], ("kind", ahead, 1), [])
        self.check([END], END, [])
        self.check([END, ("tell", 0), END], END, [])

    def test_nought(self):
        for word in ("over", "rest"):
            for ahead in (0, 1, 3):
                self.ends_at(ahead, [("number", 0, 5), ("number", 1, 0), (word, 0, 0, 1), END], ("nought", ahead + 2), [])
                self.ends_at(ahead, [("number", 0, 0), ("tell", 0), (word, 1, 0, 0), END], ("nought", ahead + 2), [0])
            self.check([("number", 1, 0), (word, 0, 2, 1), END], ("kind", 1, 1), [])
            self.check([("number", 1, 0), (word, 0, 1, 2), END], ("kind", 1, 2), [])

    def test_room(self):
        for laying in LAYINGS:
            great, lesser = 2 ** laying[0], -(2 ** (laying[0] - 1)) - 1
            for row, size in ((("number", 0, great), 3), (("pair", 0, 1, 2), 3), (("number", 0, lesser), 2)):
                for room in range(size):
                    self.check_room([row, END], laying, room, ("room", 0), [], (0, 0, 1))
                    self.check_room([("tell", 0), row, END], laying, room, ("room", 1), ["none"], (0, 0, 1))
                self.check_room([row, END], laying, size, END, [], (0, 0, 0))
                # A second one finds room where the first one is reached no more.
                self.check_room([row, ("one", 0, "no"), row, END], laying, size, END, [], (0, 0, 1))
                script = [row, ("copy", 3, 0), ("tell", 7), row, END]
                self.check_room(script, laying, size, ("room", 3), ["none"], (0, 0, 1))
                self.assertEqual(plain_run(script, 400), (END, ["none"]))
                self.check_room([row, row, END], laying, size, ("room", 1), [], (0, 0, 1))

    def test_deeds_of_two_numbers_that_lack_room(self):
        for laying in LAYINGS:
            n = 2 ** (laying[0] - 1)
            script = [("number", 0, n), ("plus", 1, 0, 0), ("tell", 1), END]
            self.check_room(script, laying, 2, ("room", 1), [], (0, 0, 1))
            self.check_room(script, laying, 5, END, [2 * n], (0, 1, 0))
            script = [("number", 0, n), ("one", 2, "yes"), ("less", 1, 0, 0), ("plus", 0, 0, 2), END]
            self.check_room(script, laying, 2, ("kind", 3, 2), [], (0, 1, 0))

    def test_too_many_limbs(self):
        # Here a number may have 127 limbs, and the outside 128 words. The third product has 134 limbs: no sweep for it.
        laying = (9, [("sign", 2, 0), ("far", 2, 1), ("pair", 2, 2), ("small", 3, 3), ("one", 3, 7)])
        script = [("number", 0, 2 ** 150), ("times", 1, 0, 0), ("times", 2, 1, 1), ("times", 3, 2, 2), ("tell", 0), END]
        self.check_room(script, laying, 400, ("room", 3), [], (0, 2, 0))
        self.assertEqual(plain_run(script, 400), (END, [2 ** 150]))
        script[3] = ("times", 3, 2, 1)
        self.check_room(script, laying, 400, ("room", 3), [], (0, 2, 1))


class Allowed(Case):
    def test_none_just_as_many_and_one_fewer(self):
        script = [("number", 0, 1), ("tell", 0), ("number", 0, 2), ("tell", 0), END]
        for most, end, news in (
            (0, ("far", 0), []), (1, ("far", 1), []), (2, ("far", 2), [1]), (3, ("far", 3), [1]),
            (4, ("far", 4), [1, 2]),
            (5, END, [1, 2]), (6, END, [1, 2]), (400, END, [1, 2]),
        ):
            self.check(script, end, news, most)

    def test_far_goes_ahead_of_the_others(self):
        for row, end in (
            (("plus", 0, 1, 2), ("kind", 2, 2)), (("over", 0, 1, 3), ("nought", 2)), (END, END),
            (("first", 0, 1), ("kind", 2, 1)),
            (("below", 2, 1, 0), ("kind", 2, 1)),
        ):
            script = [("number", 1, 5), ("number", 3, 0), row, END]
            self.check(script, ("far", 0), [], 0)
            self.check(script, ("far", 1), [], 1)
            self.check(script, ("far", 2), [], 2)
            self.check(script, end, [], 3)
        for row in (("plus", 0, 1, 2), END, ("tell", 0), ("jump", 0)):
            self.check([row, END], ("far", 0), [], 0)
        for laying in LAYINGS:
            script = [("tell", 0), ("pair", 0, 1, 2), END]
            self.check_room(script, laying, 2, ("far", 1), ["none"], (0, 0, 0), most=1)
            self.check_room(script, laying, 2, ("room", 1), ["none"], (0, 0, 1), most=2)

    def test_a_row_that_ends_the_run_is_not_gone(self):
        # As many rows are allowed as are gone ahead of the end, and one more, which the end does not take.
        self.check([("tell", 0), END], END, ["none"], 2)
        self.check([("tell", 0), END], ("far", 1), ["none"], 1)

    def test_rows_that_go_on_elsewhere_count(self):
        self.check([("jump", 0)], ("far", 0), [], 400)
        self.check([("jump", 1), ("jump", 0)], ("far", 0), [], 400)
        self.check([("jump", 1), ("jump", 0)], ("far", 1), [], 399)
        self.check([("same", 0, 1, 0), END], ("far", 0), [], 7)
        self.check([("kind", 0, "number", 0), ("kind", 0, "one", 0), END], ("far", 1), [], 7)
        self.check([("number", 0, 1), ("number", 1, 2), ("below", 1, 0, 0), ("below", 0, 1, 2), END], ("far", 2), [], 400)
        self.check([("jump", 3), END, END, ("tell", 0), ("jump", 1)], END, ["none"], 4)
        self.check([("jump", 3), END, END, ("tell", 0), ("jump", 1)], ("far", 1), ["none"], 3)

    def test_a_long_loop(self):
        script = [("number", 0, 1), ("number", 1, 0), ("plus", 1, 1, 0), ("jump", 2)]
        for most in (398, 399, 400):
            store = PlainStore()
            self.assertEqual(go(script, store, most), (("far", 2 + most % 2), []))
            self.assertEqual(store.told(1), (most - 1) // 2)

    def test_just_as_many_by_chance(self):
        for script, end, news in runs_by_chance(0, 60):
            if end == END:
                gone = [most for most in range(ALLOWED + 1) if plain_run(script, most)[0][0] == "far"]
                self.assertEqual(gone, list(range(len(gone))))
                for most in (len(gone) - 1, len(gone)):
                    wanted = model_go(script, Plain(), most)
                    self.assertEqual(wanted[0] == END, most == len(gone))
                    self.assertEqual(plain_run(script, most), wanted)
                    self.assertEqual(run(script, (32, FULL), 400, most)[:2], wanted)


class Counts(Case):
    def test_quick_slow_sweeps(self):
        laying = (8, FULL)
        base = [("number", 0, 7), ("number", 1, 8), ("number", 2, 9)]
        self.check_room(base + [END], laying, 400, END, [], (0, 0, 0))
        self.check_room(base + [("plus", 3, 0, 1), END], laying, 400, END, [], (1, 0, 0))
        self.check_room(base + [("plus", 3, 0, 2), END], laying, 400, END, [], (0, 1, 0))
        deeds = [("plus", 3, 0, 2), ("less", 3, 3, 2), ("times", 3, 0, 0), ("rest", 4, 0, 1)]
        self.check_room(base + deeds + [END], laying, 400, END, [], (1, 3, 0))
        self.check_room(base + [("plus", 0, 0, 5), END], laying, 400, ("kind", 3, 2), [], (0, 0, 0))
        self.check_room(base + [("plus", 3, 0, 2)] * 2 + [END], laying, 2, ("room", 4), [], (0, 1, 1))
        self.check_room(base + [("plus", 3, 0, 2), ("one", 3, "no"), ("plus", 3, 1, 2), END], laying, 2, END, [], (0, 2, 1))
        self.check_room(base + [("below", 0, 1, 4), ("over", 0, 1, 0), END], laying, 0, END, [], (1, 0, 0))

    def test_go_counts_on(self):
        store = Store((8, FULL), 400)
        script = [("number", 0, 7), ("plus", 1, 0, 0), ("plus", 1, 1, 1), END]
        for turn in range(1, 4):
            self.assertEqual(go(script, store, 400), (END, []))
            self.assertEqual(counts_of(store), (turn, turn, 0))
        store.sweep()
        self.assertEqual(run(script, (8, FULL), 400, 400), (END, [], (1, 1, 0)))


class AsItStands(Case):
    def stores(self):
        return [PlainStore()] + [Store(laying, 400) for laying in LAYINGS]

    def test_what_is_held_is_found_and_what_is_done_stays(self):
        for store in self.stores():
            store.number(0, 1000)
            store.pair(1, 0, 0)
            script = [("tell", 0), ("tell", 1), ("plus", 0, 0, 0), ("set_first", 1, 0), END]
            self.assertEqual(go(script, store, 400), (END, [1000, "pair"]))
            self.assertEqual(store.told(0), 2000)
            store.first(2, 1)
            store.one(0, "yes")
            self.assertEqual(store.told(2), 2000)
            script = [("tell", 0), ("tell", 2), ("second", 3, 1), ("tell", 3), END]
            self.assertEqual(go(script, store, 400), (END, ["yes", 2000, 1000]))

    def test_what_was_done_ahead_of_an_end_stays(self):
        for store in self.stores():
            for script, most, end in (
                ([("number", 0, 50), ("first", 0, 0), END], 400, ("kind", 1, 1)),
                ([("number", 0, 51), ("number", 1, 0), ("over", 0, 0, 1), END], 400, ("nought", 2)),
                ([("number", 0, 52), ("number", 0, 53), END], 1, ("far", 1)), ([("number", 0, 54), END], 1, ("far", 1)),
                ([("number", 0, 55), ("jump", 0)], 8, ("far", 0)),
            ):
                self.assertEqual(go(script, store, most), (end, []))
                self.assertEqual(store.told(0), script[0][2])

    def test_each_end_at_the_first_row(self):
        for store in self.stores():
            store.number(0, 20)
            store.number(1, 0)
            for row, end in (
                (("plus", 0, 0, 2), ("kind", 0, 2)), (("plus", 0, 2, 0), ("kind", 0, 1)), (("over", 0, 0, 1), ("nought", 0)),
                (("rest", 0, 1, 1), ("nought", 0)), (("below", 0, 2, 0), ("kind", 0, 2)), (END, END), (("jump", 1), END),
            ):
                self.assertEqual(go([row, END], store, 9), (end, []))
                self.assertEqual(go([row, END], store, 0), (("far", 0), []))
                self.assertEqual([store.told(q) for q in range(3)], [20, 0, "none"])

    def test_a_refused_row_changes_nothing_but_for_a_sweep(self):
        store = Store((8, FULL), 4)
        script = [("number", 0, 99), ("number", 0, 98), ("number", 0, 1000), END]
        self.assertEqual(go(script, store, 400), (("room", 2), []))
        self.assertEqual((store.outside(), store.told(0), counts_of(store)), ([4, 98], 98, (0, 0, 1)))
        self.assertEqual(go([("one", 0, "no"), ("number", 1, 1000), ("tell", 1), END], store, 400), (END, [1000]))

    def test_deeds_by_hand_between_beside_a_model(self):
        for place, laying in enumerate(LAYINGS):
            store, model = Store(laying, 60), LaidModel(laying, 60)
            deeds = by_chance(place, 1000)
            for script, end, news in runs_by_chance(1000 * place, 60):
                # From what stands there, products might grow beyond all bounds.
                script = [("plus",) + row[1:] if row[0] == "times" else row for row in script]
                self.assertEqual(go(script, store, 50), model_go(script, model, 50))
                self.assertEqual(seen(store), seen(model))
                for turn in range(5):
                    deed = next(deeds)
                    if not grows_too_far(model, deed):
                        self.assertEqual(outcome(store, deed), outcome(model, deed))

    def test_a_new_store_as_by_run(self):
        for script, end, news in runs_by_chance(500, 40):
            plain = PlainStore()
            self.assertEqual(go(script, plain, ALLOWED), plain_run(script, ALLOWED))
            self.assertEqual(plain_run(script, ALLOWED), (end, news))
            if end[0] != "far":
                model = Store((32, FULL), 400)
                if go(script, model, ALLOWED)[0][0] != "room":
                    self.assertEqual(look(model), look(plain))


class Own(Case):
    def test_news_are_the_asker_s_own(self):
        script = [("number", 0, 5), ("tell", 0), ("tell", 1), END]
        store, plain = Store((8, FULL), 40), PlainStore()
        for ask in (
            lambda: plain_run(script, 9), lambda: run(script, (8, FULL), 40, 9), lambda: go(script, store, 9),
            lambda: go(script, plain, 9),
        ):
            one, other = ask(), ask()
            self.assertIsNot(one[1], other[1])
            one[1].clear()
            self.assertEqual((other[1], ask()[1]), ([5, "none"], [5, "none"]))

    def test_the_store_of_a_run_is_its_own(self):
        laying = (8, list(FULL))
        script = [("tell", 0), ("number", 0, 5), END]
        for turn in range(2):
            self.assertEqual(run(script, laying, 40, 9), (END, ["none"], (0, 0, 0)))
            self.assertEqual(plain_run(script, 9), (END, ["none"]))
        self.assertEqual(laying, (8, FULL))

    def test_layings_of_many_bits(self):
        script = [("number", r, 3 ** (7 * r)) for r in REGISTERS] + [("tell", q) for q in REGISTERS] + [END]
        news = [3 ** (7 * r) for r in REGISTERS]
        for bits in range(11, 33):
            for laying in layings_of(bits):
                self.assertEqual(run(script, laying, 400, 400), (END, news, (0, 0, 0)))


if __name__ == "__main__":
    unittest.main()
