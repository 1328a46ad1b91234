"""Points 18 and 19: which scripts are formed."""

import copy
import unittest

from markwords.scripts import formed
from tests.scripted import PARTS, script_by_chance
from tests.worths import KINDS, THREE

END = ("end",)
# A part that goes for each letter of PARTS, in a script of three rows.
RIGHT = {"r": 7, "q": 0, "p": 3, "n": -5, "k": 100, "t": 2, "o": "yes", "w": "pair"}
SIXTY_FIGURES = 10 ** 60 - 1


def row_with(word, place=None, part=None):
    """A row of a word, with right parts but at one place."""
    parts = [RIGHT[letter] for letter in PARTS[word]]
    if place is not None:
        parts[place] = part
    return (word,) + tuple(parts)


def places_of(letters):
    return [(word, place) for word, parts in PARTS.items() for place, letter in enumerate(parts) if letter in letters]


class Case(unittest.TestCase):
    def check(self, script, wanted):
        kept = copy.deepcopy(script)
        self.assertIs(formed(script), wanted, script)
        self.assertEqual(script, kept)

    def check_row(self, row, wanted):
        """As the first, as a middle row, and, where it may stand there, as the last of three rows."""
        self.check([row, END, END], wanted)
        self.check([END, row, ("jump", 0)], wanted)
        self.check([END, END, row], wanted and row[0] in ("end", "jump"))


class Words(Case):
    def test_each_word_with_its_parts(self):
        for word in PARTS:
            self.check_row(row_with(word), True)

    def test_parts_more_and_fewer(self):
        for word, parts in PARTS.items():
            row = row_with(word)
            for more in (0, 1, "none", "pair"):
                self.check_row(row + (more,), False)
                self.check_row(row + (more, more), False)
            for fewer in range(1, len(row)):
                self.check_row(row[:fewer], False)

    def test_unknown_words(self):
        for word in (
            "", "Number", "numbers", "nought", "told", "sweep", "go", " end", "end ", "END", "setfirst", "set first",
            "none",
            "yes", "small", "far", "0", "register", "number 0 1", "-", "plus\n", "kinds", "begin",
        ):
            for parts in ((), (0,), (0, 0), (0, 0, 0), (0, 0, 0, 0), (0, "none"), (0, "pair", 0)):
                self.check_row((word,) + parts, False)

    def test_a_row_of_another_word_s_parts(self):
        for word, parts in PARTS.items():
            for other, others in PARTS.items():
                numbers = str.maketrans("rqpkt", "nnnnn")
                if parts.translate(numbers) != others.translate(numbers):
                    self.check_row((word,) + row_with(other)[1:], False)


class Parts(Case):
    def test_registers(self):
        for word, place in places_of("rqp"):
            for part in range(8):
                self.check_row(row_with(word, place, part), True)
            for part in (-1, 8, 9, -8, 10 ** 59, -SIXTY_FIGURES):
                self.check_row(row_with(word, place, part), False)

    def test_rows_that_are_there(self):
        for word, place in places_of("t"):
            for part in range(3):
                self.check_row(row_with(word, place, part), True)
            for part in (-1, 3, 4, 59, 60, SIXTY_FIGURES, -SIXTY_FIGURES):
                self.check_row(row_with(word, place, part), False)
            for rows in (1, 2, 30, 60):
                for part in (-1, 0, rows - 1, rows):
                    script = [END] * (rows - 1) + [("jump", 0)]
                    script[0] = row_with(word, place, part)
                    wanted = part in range(rows) and script[-1][0] in ("end", "jump")
                    self.check(script, wanted)

    def test_numbers(self):
        for n in (0, 1, -1, 127, 128, 2 ** 64, SIXTY_FIGURES, -SIXTY_FIGURES, 10 ** 60, -(10 ** 70)):
            self.check_row(("number", 0, n), True)

    def test_signs(self):
        for k in range(128):
            self.check_row(("sign", 0, k), True)
        for k in (-1, 128, -127, 255, SIXTY_FIGURES):
            self.check_row(("sign", 0, k), False)

    def test_texts_of_a_one_row(self):
        for text in THREE:
            self.check_row(("one", 0, text), True)
        for text in ("", "None", "nones", "number", "sign", "one", "pair", "true", "0", "yes ", " no", "y"):
            self.check_row(("one", 0, text), False)

    def test_texts_of_a_kind_row(self):
        for text in KINDS:
            self.check_row(("kind", 0, text, 1), True)
        for text in ("", "Pair", "none", "yes", "small", "far", "text", "pairs", "kind", " one", "n"):
            self.check_row(("kind", 0, text, 1), False)

    def test_a_text_where_a_number_stands(self):
        for word, place in places_of("rqpnkt"):
            for part in ("", "0", "1", "none", "pair", "number", "r", "-"):
                self.check_row(row_with(word, place, part), False)

    def test_a_number_where_a_text_stands(self):
        for word, place in places_of("ow"):
            for part in (0, 1, 2, -1, 3, SIXTY_FIGURES):
                self.check_row(row_with(word, place, part), False)

    def test_a_truth_is_no_whole_number(self):
        for word, place in places_of("rqpnkt"):
            for part in (True, False):
                self.check_row(row_with(word, place, part), False)


class Rows(Case):
    def test_how_many(self):
        self.check([], False)
        for rows in (1, 2, 59, 60):
            self.check([("tell", 0)] * (rows - 1) + [END], True)
            self.check([("tell", 0)] * (rows - 1) + [("jump", rows - 1)], True)
        for rows in (61, 62, 400):
            self.check([("tell", 0)] * (rows - 1) + [END], False)
            self.check([END] * rows, False)
            self.check([("jump", 0)] * rows, False)

    def test_the_last_one(self):
        for word in PARTS:
            wanted = word in ("end", "jump")
            self.check([END, END, row_with(word)], wanted)
            self.check([END, row_with(word), END], True)
        self.check([END], True)
        self.check([("jump", 0)], True)
        self.check([("jump", 1)], False)
        self.check([("tell", 0)], False)
        self.check([("same", 0, 0, 0)], False)
        self.check([("end", 0)], False)
        self.check([("jump",)], False)

    def test_a_wrong_row_anywhere(self):
        right = [("tell", 0)] * 59 + [END]
        for place in range(60):
            for wrong in (("tell", 8), ("tells", 0), ("jump", 60), ("one", 0, "maybe"), ("end", 0), ("plus", 0, 0)):
                script = list(right)
                script[place] = wrong
                self.check(script, False)

    def test_by_chance(self):
        for seed in range(300):
            self.check(script_by_chance(seed), True)


if __name__ == "__main__":
    unittest.main()
