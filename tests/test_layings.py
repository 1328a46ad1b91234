"""Points 4, 7 and 8: the judge of layings, marks and loads."""

import copy
import itertools
import random
import unittest

from markwords.layings import laying_fault, load_bits, mark_of
from tests.laid import FULL, KINDS, LEAN, OPEN, WIDE

LEAST = {"small": 2, "far": 3, "pair": 3, "sign": 7, "one": 2}
FAR_BEYOND = [10 ** 60, -(10 ** 60), 10 ** 200, -(10 ** 200), 2 ** 5000, -(2 ** 5000)]
FORM = ("form", None)


def replaced(marks, kind, width, pattern):
    """The marks with another width and pattern for a kind."""
    return [(kind, width, pattern) if mark[0] == kind else mark for mark in marks]


def has_form(bits, marks):
    if not 8 <= bits <= 32 or sorted(mark[0] for mark in marks) != sorted(KINDS):
        return False
    return all(1 <= width < bits and 0 <= pattern < 2 ** width for kind, width, pattern in marks)


def fault_by_words(laying):
    """The fault, found by going through all words."""
    bits, marks = laying
    if not has_form(bits, marks):
        return FORM
    for word in range(2 ** bits):
        if sum(word % 2 ** width == pattern for kind, width, pattern in marks) > 1:
            return ("two", word)
    for kind, width, pattern in marks:
        if bits - width < LEAST[kind]:
            return ("few", kind)
    return None


def by_chance(chance, bits, widest):
    marks = []
    for kind in chance.sample(KINDS, 5):
        width = chance.randint(1, widest)
        marks.append((kind, width, chance.randrange(2 ** width)))
    return (bits, marks)


class Right(unittest.TestCase):
    def test_right_layings_of_8_to_32_bits(self):
        for bits in range(8, 33):
            self.assertIsNone(laying_fault((bits, list(FULL))))
            self.assertIsNone(laying_fault((bits, list(OPEN))))
            if bits >= 9:
                self.assertIsNone(laying_fault((bits, list(LEAN))))
            if bits >= 10:
                self.assertIsNone(laying_fault((bits, list(WIDE))))

    def test_marks_in_any_order(self):
        for marks in itertools.permutations(FULL):
            self.assertIsNone(laying_fault((8, list(marks))))
        for marks in itertools.permutations(LEAN):
            self.assertIsNone(laying_fault((9, list(marks))))

    def test_wide_marks(self):
        for bits in range(12, 33):
            for kind in KINDS:
                width = bits - LEAST[kind]
                marks = [(name, 3, k) for k, name in enumerate(KINDS)]
                for pattern in (7, 2 ** width - 1):
                    self.assertIsNone(laying_fault((bits, replaced(marks, kind, width, pattern))))


class Form(unittest.TestCase):
    def test_bits(self):
        for bits in [7, 33, 0, -1, 1, 64, 6, 34] + FAR_BEYOND:
            self.assertEqual(laying_fault((bits, list(FULL))), FORM, bits)

    def test_widths(self):
        for bits in range(8, 33):
            for kind in KINDS:
                for width in [0, -1, bits, bits + 1, 64, 1000] + FAR_BEYOND:
                    for pattern in (0, 1):
                        self.assertEqual(laying_fault((bits, replaced(FULL, kind, width, pattern))), FORM, width)

    def test_the_widest_width_has_the_form(self):
        for bits in range(8, 33):
            for kind in KINDS:
                for marks in (FULL, LEAN):
                    fault = laying_fault((bits, replaced(marks, kind, bits - 1, 2 ** (bits - 1) - 1)))
                    self.assertIn(fault[0], ("two", "few"), (bits, kind))

    def test_patterns(self):
        for bits in (8, 9, 31, 32):
            for kind, width, right in FULL:
                for pattern in [-1, -2, 2 ** width, 2 ** width + right, right - 2 ** width] + FAR_BEYOND:
                    self.assertEqual(laying_fault((bits, replaced(FULL, kind, width, pattern))), FORM, pattern)

    def test_patterns_at_their_bounds_have_the_form(self):
        for width in range(1, 12):
            for pattern in (0, 2 ** width - 1):
                for kind in KINDS:
                    self.assertNotEqual(laying_fault((14, replaced(FULL, kind, width, pattern))), FORM)

    def test_a_kind_twice_or_another_text(self):
        for place, other in itertools.product(range(5), KINDS + ["", "Small", "ones", "small ", "number", "none"]):
            marks = list(FULL)
            marks[place] = (other,) + marks[place][1:]
            wanted = FORM
            if sorted(mark[0] for mark in marks) == sorted(KINDS):
                wanted = None
            self.assertEqual(laying_fault((9, marks)), wanted, marks)

    def test_how_many_marks(self):
        self.assertEqual(laying_fault((8, [])), FORM)
        for place in range(5):
            four = FULL[:place] + FULL[place + 1:]
            self.assertEqual(laying_fault((8, four)), FORM)
            for extra in (FULL[place], (FULL[place][0], 4, 9), ("more", 4, 9), ("", 1, 1)):
                self.assertEqual(laying_fault((8, FULL + [extra])), FORM)
                self.assertEqual(laying_fault((8, [extra] + FULL)), FORM)
                self.assertEqual(laying_fault((8, four + [extra, extra])), FORM)
        self.assertEqual(laying_fault((8, FULL * 2)), FORM)
        self.assertEqual(laying_fault((8, FULL * 1000)), FORM)


class Two(unittest.TestCase):
    def test_by_hand(self):
        self.assertEqual(laying_fault((8, replaced(FULL, "one", 3, 6))), ("two", 6))
        self.assertEqual(laying_fault((8, replaced(FULL, "one", 3, 0))), ("two", 0))
        self.assertEqual(laying_fault((8, replaced(FULL, "one", 3, 5))), ("two", 5))
        self.assertEqual(laying_fault((8, replaced(FULL, "one", 5, 29))), ("two", 29))
        self.assertEqual(laying_fault((8, replaced(FULL, "one", 2, 3))), ("two", 3))
        self.assertEqual(laying_fault((8, replaced(FULL, "one", 1, 0))), ("two", 0))
        self.assertEqual(laying_fault((8, replaced(FULL, "one", 1, 1))), ("two", 1))

    def test_the_least_of_several(self):
        marks = [("small", 1, 1), ("far", 4, 15), ("pair", 4, 9), ("sign", 2, 0), ("one", 5, 28)]
        for turned in itertools.permutations(marks):
            self.assertEqual(laying_fault((12, list(turned))), ("two", 9))

    def test_three_marks_on_one_word(self):
        marks = [("small", 1, 0), ("far", 2, 2), ("pair", 3, 6), ("sign", 2, 1), ("one", 3, 7)]
        self.assertEqual(laying_fault((10, marks)), ("two", 2))

    def test_two_marks_of_many_bits(self):
        for bits in range(11, 33):
            for wide in range(4, bits):
                for load in (0, 1, 2 ** (wide - 3) - 1):
                    shared = 5 + 8 * load
                    self.assertEqual(laying_fault((bits, replaced(FULL, "one", wide, shared))), ("two", shared))

    def test_against_all_words(self):
        chance = random.Random(8)
        for bits in (8, 9, 10):
            found = {"two": 0, "few": 0, None: 0}
            for turn in range(900):
                laying = by_chance(chance, bits, (3, 4, 6, bits - 1)[turn % 4])
                wanted = fault_by_words(laying)
                self.assertEqual(laying_fault(laying), wanted, laying)
                found[wanted and wanted[0]] += 1
            self.assertGreater(min(found["two"], found["few"]), 5)

    def test_against_all_words_with_four_marks_apart(self):
        for bits in (8, 9):
            for marks in (FULL, OPEN, LEAN):
                for kind in KINDS:
                    for width in range(1, bits):
                        for pattern in range(0, 2 ** width, 1 if width < 5 else 7):
                            laying = (bits, replaced(marks, kind, width, pattern))
                            self.assertEqual(laying_fault(laying), fault_by_words(laying), laying)


class Few(unittest.TestCase):
    def test_each_kind_at_its_least_and_one_fewer(self):
        for bits in range(12, 33):
            for kind in KINDS:
                marks = [(name, 3, k) for k, name in enumerate(KINDS)]
                enough = bits - LEAST[kind]
                self.assertIsNone(laying_fault((bits, replaced(marks, kind, enough, 7))))
                for width in range(enough + 1, bits):
                    self.assertEqual(laying_fault((bits, replaced(marks, kind, width, 7))), ("few", kind))

    def test_the_first_kind_of_the_list(self):
        marks = [(kind, 9, 1 + k) for k, kind in enumerate(KINDS)]
        for turned in itertools.permutations(marks):
            self.assertEqual(laying_fault((10, list(turned))), ("few", turned[0][0]))
        marks = [("small", 9, 0), ("far", 8, 1), ("pair", 7, 2), ("sign", 7, 3), ("one", 7, 4)]
        for turned in itertools.permutations(marks):
            short = [mark[0] for mark in turned if mark[0] in ("small", "far", "sign")]
            self.assertEqual(laying_fault((10, list(turned))), ("few", short[0]))


class Order(unittest.TestCase):
    def test_form_goes_ahead_of_two_and_few(self):
        doubled = [("small", 1, 0), ("far", 2, 2), ("pair", 7, 1), ("sign", 3, 3), ("one", 3, 7)]
        self.assertEqual(laying_fault((8, doubled)), ("two", 2))
        for place in range(5):
            kind = doubled[place][0]
            self.assertEqual(laying_fault((8, replaced(doubled, kind, 8, 2))), FORM)
            self.assertEqual(laying_fault((8, replaced(doubled, kind, 3, 8))), FORM)
            self.assertEqual(laying_fault((8, doubled[:place] + doubled[place + 1:])), FORM)
        self.assertEqual(laying_fault((7, doubled)), FORM)
        self.assertEqual(laying_fault((33, doubled)), FORM)

    def test_two_goes_ahead_of_few(self):
        for turned in itertools.permutations([("small", 7, 64), ("far", 3, 1), ("pair", 3, 3), ("sign", 7, 9), ("one", 7, 127)]):
            self.assertEqual(laying_fault((8, list(turned))), ("two", 9))


class Stays(unittest.TestCase):
    def test_the_laying_handed_in_stays(self):
        for marks in (FULL, OPEN, LEAN, WIDE, [], FULL[:4], FULL * 2, replaced(FULL, "one", 3, 5)):
            for bits in (7, 8, 12):
                laying = (bits, list(marks))
                kept = copy.deepcopy(laying)
                laying_fault(laying)
                self.assertEqual(laying, kept)

    def test_a_changed_list_is_judged_as_it_is_then(self):
        laying = (8, list(FULL))
        self.assertIsNone(laying_fault(laying))
        laying[1][4] = ("one", 3, 5)
        self.assertEqual(laying_fault(laying), ("two", 5))
        laying[1][4] = ("one", 7, 7)
        self.assertEqual(laying_fault(laying), ("few", "one"))
        laying[1].append(("one", 3, 7))
        self.assertEqual(laying_fault(laying), FORM)
        laying[1].clear()
        self.assertEqual(laying_fault(laying), FORM)
        laying[1].extend(FULL)
        self.assertIsNone(laying_fault(laying))


class Marks(unittest.TestCase):
    def test_all_words_of_small_layings(self):
        for marks, fewest in ((FULL, 8), (OPEN, 8), (LEAN, 9), (WIDE, 10)):
            for bits in range(fewest, 13):
                laying = (bits, list(marks))
                count = dict.fromkeys(KINDS + [None], 0)
                for word in range(2 ** bits):
                    wanted = [kind for kind, width, pattern in marks if word % 2 ** width == pattern]
                    kind = mark_of(laying, word)
                    self.assertEqual(kind, wanted[0] if wanted else None)
                    count[kind] += 1
                for kind in KINDS:
                    self.assertEqual(count[kind], 2 ** load_bits(laying, kind))
                self.assertEqual(sum(count.values()), 2 ** bits)
                self.assertEqual(count[None] == 0, marks in (FULL, LEAN))
                self.assertEqual(laying, (bits, marks))

    def test_words_without_a_mark(self):
        for bits in range(8, 33):
            laying = (bits, list(OPEN))
            for word in (7, 13, 15, 23, 2 ** bits - 1):
                self.assertIsNone(mark_of(laying, word))

    def test_the_least_and_the_greatest_word_of_each_mark(self):
        for bits in range(10, 33):
            for marks in (FULL, OPEN, LEAN, WIDE):
                laying = (bits, list(marks))
                for kind, width, pattern in marks:
                    self.assertEqual(mark_of(laying, pattern), kind)
                    self.assertEqual(mark_of(laying, pattern + 2 ** width), kind)
                    self.assertEqual(mark_of(laying, pattern + 2 ** bits - 2 ** width), kind)

    def test_the_greatest_word(self):
        for bits in range(10, 33):
            self.assertEqual(mark_of((bits, list(FULL)), 2 ** bits - 1), "one")
            self.assertEqual(mark_of((bits, list(LEAN)), 2 ** bits - 1), "small")
            self.assertEqual(mark_of((bits, list(WIDE)), 2 ** bits - 1), "small")

    def test_load_bits(self):
        for bits in range(10, 33):
            for marks in (FULL, OPEN, LEAN, WIDE):
                for kind, width, pattern in marks:
                    self.assertEqual(load_bits((bits, list(marks)), kind), bits - width)

    def test_a_changed_list_is_read_as_it_is_then(self):
        laying = (9, list(FULL))
        self.assertEqual((mark_of(laying, 0), load_bits(laying, "one")), ("sign", 6))
        laying[1][:] = LEAN
        self.assertEqual((mark_of(laying, 0), load_bits(laying, "one")), ("one", 7))


if __name__ == "__main__":
    unittest.main()
