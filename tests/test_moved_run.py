"""Points 4 and 21: runs whose store is laid anew ahead of some rows."""

import copy
import random
import unittest

from markwords.runs import moved_run, plain_run, run
from tests.laid import FULL, OPEN, TIGHT_FAR, TIGHT_PAIR, layings_of
from tests.scripted import ALLOWED, model_moved, runs_by_chance

END = ("end",)
NARROW = (8, FULL)
TIGHT = (8, TIGHT_FAR)
MIDDLE = (16, OPEN)
BROAD = (32, FULL)
WHENS = [
    [], [False] * 5, [True], [True] * 400, [True, False] * 200, [False, True] * 100, [False, False, True] * 30,
    [False] * 9 + [True] * 20,
]


class Case(unittest.TestCase):
    def check(self, script, layings, room, when, end, news, most=ALLOWED):
        kept = copy.deepcopy((script, layings, when))
        told = moved_run(script, layings, room, most, when)
        self.assertEqual(told, (end, news))
        self.assertEqual([type(part) for part in told], [tuple, list])
        self.assertEqual((script, layings, when), kept)


class WhereRoomDoes(Case):
    SCRIPT = [
        ("number", 0, 1), ("number", 1, 1), ("number", 2, 12), ("number", 7, 1), ("pair", 3, 0, 1), ("below", 2, 7, 12),
        ("first", 4, 3), ("second", 5, 3), ("plus", 4, 4, 5), ("tell", 4), ("pair", 3, 5, 4), ("jump", 13), END,
        ("less", 2, 2, 7), ("jump", 5),
    ]
    NEWS = [2, 3, 5, 8, 13, 21, 34, 55, 89, 144, 233, 377]

    def test_as_the_plain_run(self):
        self.assertEqual(plain_run(self.SCRIPT, ALLOWED), (END, self.NEWS))
        for layings in ([NARROW], [BROAD], [NARROW, BROAD], [BROAD, MIDDLE, NARROW], layings_of(16)):
            for when in WHENS:
                self.check(self.SCRIPT, layings, 400, when, END, self.NEWS)

    def test_allowed(self):
        for most in range(140):
            end, news = plain_run(self.SCRIPT, most)
            for when in WHENS:
                self.check(self.SCRIPT, [BROAD, MIDDLE], 400, when, end, news, most)

    def test_one_laying_without_moves_is_a_run(self):
        for script, end, news in runs_by_chance(0, 60):
            for room in (0, 10, 400):
                for laying in (NARROW, BROAD):
                    told = run(script, laying, room, ALLOWED)
                    self.check(script, [laying], room, [], told[0], told[1])
                    self.check(script, [laying, BROAD], room, [False] * 30, told[0], told[1])

    def test_each_end(self):
        for when in WHENS:
            for layings in ([BROAD], [NARROW, MIDDLE], [MIDDLE, NARROW, BROAD]):
                self.check([END], layings, 0, when, END, [])
                self.check([("tell", 0), END], layings, 0, when, ("far", 1), ["none"], 1)
                self.check([("tell", 0), END], layings, 0, when, ("far", 0), [], 0)
                self.check([("tell", 0), ("first", 0, 1), END], layings, 0, when, ("kind", 1, 1), ["none"])
                self.check([("number", 0, 5), ("plus", 0, 0, 1), END], layings, 0, when, ("kind", 1, 2), [])
                self.check([("number", 0, 0), ("over", 0, 0, 0), END], layings, 0, when, ("nought", 1), [])
                self.check([("tell", 0), ("pair", 0, 0, 0), END], layings, 2, when, ("room", 1), ["none"])


class WhichLaying(Case):
    """100 is in a word under MIDDLE and BROAD, 10 ** 6 under BROAD alone; elsewhere they need words outside."""

    def test_from_the_first_one(self):
        script = [("number", 0, 100), ("tell", 0), END]
        self.check(script, [NARROW, BROAD], 0, [], ("room", 0), [])
        self.check(script, [BROAD, NARROW], 0, [], END, [100])
        self.check(script, [NARROW], 0, [True] * 9, ("room", 0), [])

    def test_the_second_one_ahead_of_the_first_row(self):
        script = [("number", 0, 100), ("tell", 0), END]
        self.check(script, [NARROW, BROAD], 0, [True], END, [100])
        self.check(script, [BROAD, NARROW], 0, [True], ("room", 0), [])
        self.check(script, [NARROW, NARROW, BROAD], 0, [True], ("room", 0), [])

    def test_the_truth_of_each_row(self):
        rows = [("tell", 1)] * 6
        for place in range(8):
            when = [False] * place + [True]
            for many in range(7):
                script = rows[:many] + [("number", 0, 100), ("tell", 0), END]
                # Moved ahead of the number's row or earlier.
                if place <= many:
                    self.check(script, [NARROW, BROAD], 0, when, END, ["none"] * many + [100])
                    self.check(script, [BROAD, NARROW], 0, when, ("room", many), ["none"] * many)
                else:
                    self.check(script, [NARROW, BROAD], 0, when, ("room", many), ["none"] * many)

    def test_truths_are_by_rows_gone_not_by_numbers_of_rows(self):
        # The number's row is row 1, but the fourth one that is gone into.
        script = [("jump", 3), ("number", 0, 100), END, ("tell", 7), ("jump", 1)]
        for place in range(6):
            end = END if place <= 3 else ("room", 1)
            self.check(script, [NARROW, BROAD], 0, [False] * place + [True], end, ["none"])

    def test_round_and_round(self):
        layings = [BROAD, NARROW, MIDDLE, TIGHT]
        # Whether 100 and 10 ** 6 find a word there.
        found = {0: (True, True), 1: (False, False), 2: (True, False), 3: (False, False)}
        for count in range(1, 5):
            for moves in range(14):
                for n, place in ((100, 0), (10 ** 6, 1)):
                    script = [("tell", 7)] * moves + [("number", 0, n), END]
                    end = END if found[moves % count][place] else ("room", moves)
                    self.check(script, layings[:count], 1, [True] * moves, end, ["none"] * moves)
                    # Spread over more rows, the moves are as many.
                    script = [("tell", 7)] * (2 * moves) + [("number", 0, n), END]
                    end = END if found[moves % count][place] else ("room", 2 * moves)
                    self.check(script, layings[:count], 1, [False, True] * moves, end, ["none"] * 2 * moves)

    def test_behind_the_list_s_end_it_is_false(self):
        script = [("tell", 7)] * 5 + [("number", 0, 100), END]
        for many in range(6):
            end = END if many % 2 else ("room", 5)
            self.check(script, [NARROW, BROAD], 0, [True] * many, end, ["none"] * 5)


class MovesThatLackRoom(Case):
    def test_it_stays(self):
        script = [("number", 0, 100), ("tell", 0), ("plus", 1, 0, 0), ("tell", 1), END]
        self.check(script, [BROAD, NARROW], 0, [False, True, True, True], END, [100, 200])

    def test_that_laying_is_asked_for_again(self):
        # The move to NARROW is refused while 100 is held, then done; MIDDLE has not been skipped to.
        script = [("number", 0, 100), ("tell", 0), ("one", 0, "no"), ("number", 0, 100), ("tell", 0), END]
        layings = [BROAD, NARROW, MIDDLE]
        self.check(script, layings, 0, [False, True], END, [100, 100])
        self.check(script, layings, 0, [False, True, True], END, [100, 100])
        self.check(script, layings, 0, [False, True, False, True], ("room", 3), [100])
        self.check(script, layings, 0, [False, False, False, True], ("room", 3), [100])
        self.check(script, layings, 2, [False, True, False, True], END, [100, 100])

    def test_the_next_one_goes_on_from_there(self):
        # Refused, done to NARROW, then on to MIDDLE.
        script = [("number", 0, 100), ("tell", 0), ("one", 0, "no"), ("tell", 0), ("number", 0, 100), ("tell", 0), END]
        layings = [BROAD, NARROW, MIDDLE]
        self.check(script, layings, 0, [False, True, False, True, True], END, [100, "no", 100])
        self.check(script, layings, 0, [False, True, False, True, False], ("room", 4), [100, "no"])
        self.check(script, [BROAD, NARROW, NARROW], 0, [False, True, False, True, True], ("room", 4), [100, "no"])

    def test_a_list_of_one_laying(self):
        # Moved under its own laying, it is as if swept, and finds room.
        script = [("number", 0, 100), ("number", 0, 101), ("number", 1, 102), ("tell", 0), ("tell", 1), END]
        for when in WHENS:
            self.check(script, [NARROW], 4, when, END, [101, 102])
            self.check(script, [NARROW], 3, when, ("room", 1), [])

    def test_a_number_that_was_shared_may_be_apart(self):
        # Moved to BROAD and back, one thing that two registers share becomes two, and there is no room for them.
        script = [("number", 0, 100), ("copy", 1, 0), ("tell", 0), ("tell", 1), ("pair", 2, 0, 1), END]
        self.check(script, [NARROW, BROAD], 5, [], END, [100, 100])
        self.check(script, [NARROW, BROAD], 5, [False, False, True, False], END, [100, 100])
        self.check(script, [NARROW, BROAD], 5, [False, False, True, True], ("room", 4), [100, 100])
        self.check(script, [NARROW, BROAD], 7, [False, False, True, True], END, [100, 100])
        self.check(script, [NARROW, BROAD], 3, [False, False, True, True], END, [100, 100])

    def test_what_loads_can_number(self):
        script = [("pair", r, 7, 7) for r in range(3)]
        script += [("tell", 0), ("one", 2, "no"), ("tell", 1), ("pair", 2, 7, 7), END]
        tight = (8, TIGHT_PAIR)
        news = ["pair", "pair"]
        self.check(script, [BROAD, tight], 400, [False] * 3 + [True], END, news)
        self.check(script, [BROAD, tight], 400, [False] * 3 + [True, False, True], ("room", 6), news)
        self.check(script, [BROAD, tight], 400, [False] * 3 + [True, False, True, True], END, news)


class Own(Case):
    def test_news_are_the_asker_s_own(self):
        script, layings, when = [("tell", 0), END], [NARROW, BROAD], [True]
        one, other = moved_run(script, layings, 4, 9, when), moved_run(script, layings, 4, 9, when)
        self.assertIsNot(one[1], other[1])
        one[1].clear()
        self.assertEqual(other, (END, ["none"]))

    def test_layings_are_not_changed(self):
        layings = [(8, list(FULL)), (16, list(OPEN))]
        moved_run([("number", 0, 100), ("pair", 0, 0, 0), ("tell", 0), END], layings, 40, 9, [True] * 9)
        self.assertEqual(layings, [(8, FULL), (16, OPEN)])


class ByChance(Case):
    def test_beside_the_model(self):
        chance = random.Random(5)
        kept = [laying for bits in (8, 9, 12, 16, 32) for laying in layings_of(bits)]
        met, moves = {}, {"done": 0, "refused": 0}
        for script, end, news in runs_by_chance(7000, 600, ["pair", "over", "rest"] * 4):
            # Often a broad laying first, so that much is held when narrow ones are asked for.
            layings = [chance.choice(kept[-6:] + kept)]
            layings += [chance.choice(kept) for turn in range(chance.choice([0, 1, 2, 4]))]
            room = chance.choice([0, 4, 9, 20, 40, 100, 400])
            when = [chance.random() < 0.4 for turn in range(chance.choice([0, 5, 30, 150]))]
            most = chance.choice([0, 3, 10, 60, 150])
            end, news, done = model_moved(script, layings, room, most, when)
            self.check(script, layings, room, when, end, news, most)
            met[end[0]] = met.get(end[0], 0) + 1
            moves = {name: moves[name] + done[name] for name in moves}
        self.assertEqual(set(met), {"end", "kind", "nought", "room", "far"})
        self.assertGreater(min(moves.values()), 60, moves)

    def test_beside_the_plain_run(self):
        chance = random.Random(6)
        kept = layings_of(20) + layings_of(32)
        same = 0
        for script, end, news in runs_by_chance(9000, 250):
            layings = [chance.choice(kept) for turn in range(3)]
            when = [chance.random() < 0.5 for turn in range(100)]
            told = moved_run(script, layings, 400, ALLOWED, when)
            if told[0][0] == "room":
                self.assertEqual(told[1], news[:len(told[1])])
            else:
                same += 1
                self.assertEqual(told, (end, news))
        self.assertGreater(same, 200)


if __name__ == "__main__":
    unittest.main()
