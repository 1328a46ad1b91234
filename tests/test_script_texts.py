"""Points 2 and 22: scripts as texts, and the scripts and whole numbers that texts are of."""

import copy
import unittest

from markwords.errors import NoText
from markwords.scripts import formed, read, read_whole, shown
from tests.scripted import PARTS, script_by_chance
from tests.worths import NUMBERS, refusal

NINES = "9" * 60
SIGNS = [sign for sign in map(chr, range(32, 127)) if sign != "%"] + ["\n"]
SAMPLES = {
    "number 0 17": ("number", 0, 17), "sign 1 127": ("sign", 1, 127), "one 2 none": ("one", 2, "none"),
    "copy 3 4": ("copy", 3, 4), "plus 5 6 7": ("plus", 5, 6, 7), "less 0 1 2": ("less", 0, 1, 2),
    "times 3 4 5": ("times", 3, 4, 5), "over 6 7 0": ("over", 6, 7, 0), "rest 1 2 3": ("rest", 1, 2, 3),
    "pair 4 5 6": ("pair", 4, 5, 6), "first 7 0": ("first", 7, 0), "second 1 2": ("second", 1, 2),
    "set_first 3 4": ("set_first", 3, 4), "set_second 5 6": ("set_second", 5, 6), "below 7 0 12": ("below", 7, 0, 12),
    "same 1 2 59": ("same", 1, 2, 59), "kind 3 number 0": ("kind", 3, "number", 0), "tell 4": ("tell", 4),
    "jump 10": ("jump", 10), "end": ("end",),
}
# Not formed, but rows of the words with as many parts.
NOT_FORMED = {
    "number -1 -17": ("number", -1, -17), f"number 8 -{NINES}": ("number", 8, -int(NINES)),
    "sign 0 128": ("sign", 0, 128),
    "one 0 a": ("one", 0, "a"), "one 0 abcdefgh": ("one", 0, "abcdefgh"), f"tell {NINES}": ("tell", int(NINES)),
    "kind 900 zzzzzzzz -3": ("kind", 900, "zzzzzzzz", -3), "kind 0 none 0": ("kind", 0, "none", 0),
    "one 0 pair": ("one", 0, "pair"), "jump -1": ("jump", -1), f"jump -{NINES}": ("jump", -int(NINES)),
}


class Case(unittest.TestCase):
    def check(self, text, script):
        """The text is the script's, and read again it is the script."""
        kept = copy.deepcopy(script)
        self.assertEqual(shown(script), text)
        one, other = read(text), read(text)
        self.assertEqual(one, script)
        self.assertEqual(script, kept)
        self.assertIs(type(one), list)
        self.assertEqual({type(row) for row in one}, {tuple})
        self.assertEqual({type(part) for row in one for part in row} - {int, str}, set())
        self.assertIsNot(one, other)
        self.assertIsNot(one, script)

    def check_none(self, text):
        refusal(self, NoText, read, text)

    def check_no_row(self, text):
        """No row of text, alone or beside others."""
        self.check_none(text)
        self.check_none(f"{text}\nend")
        self.check_none(f"end\n{text}")
        self.check_none(f"tell 0\n{text}\nend")


class Shown(Case):
    def test_each_word(self):
        self.assertEqual({text.split()[0] for text in SAMPLES}, set(PARTS))
        for text, row in list(SAMPLES.items()) + list(NOT_FORMED.items()):
            self.check(text, [row])
            self.check(f"{text}\nend", [row, ("end",)])
        self.check("\n".join(SAMPLES), list(SAMPLES.values()))
        self.check("\n".join(NOT_FORMED), list(NOT_FORMED.values()))

    def test_not_formed_ones_are_read_and_shown(self):
        for row in NOT_FORMED.values():
            self.assertIs(formed([row, ("end",)]), False)

    def test_numbers(self):
        for n in NUMBERS + [10 ** k for k in range(60)] + [-(10 ** k) + 1 for k in range(1, 61)]:
            for text, row in ((f"number 0 {n}", ("number", 0, n)), (f"tell {n}", ("tell", n)), (f"jump {n}", ("jump", n))):
                self.check(text, [row])

    def test_how_many_rows(self):
        for rows in (1, 2, 60, 61, 62, 300, 1000):
            self.check("\n".join(["tell 0"] * rows), [("tell", 0)] * rows)

    def test_by_chance(self):
        for seed in range(200):
            script = script_by_chance(seed)
            self.check("\n".join(" ".join(map(str, row)) for row in script), script)

    def test_a_script_that_was_read_is_the_asker_s_own(self):
        text = "tell 0\nend"
        one = read(text)
        one.clear()
        self.assertEqual(read(text), [("tell", 0), ("end",)])


class ReadRefuses(Case):
    def test_no_signs(self):
        self.check_none("")
        for text in (" ", "  ", "\n", "\n\n", " \n ", "-", "0"):
            self.check_no_row(text)

    def test_blanks(self):
        for text in list(SAMPLES) + list(NOT_FORMED):
            self.check_no_row(" " + text)
            self.check_no_row(text + " ")
            for place, sign in enumerate(text):
                if sign == " ":
                    self.check_no_row(text[:place] + " " + text[place:])
                    self.check_no_row(text[:place] + text[place + 1:])

    def test_line_feeds(self):
        for text in list(SAMPLES) + list(NOT_FORMED):
            self.check_none("\n" + text)
            self.check_none(text + "\n")
            self.check_none("end\n\n" + text)
            self.check_none(text + "\n\nend")
            self.check_none("end\n \n" + text)
            for place, sign in enumerate(text):
                if sign == " ":
                    self.check_none(text[:place] + "\n" + text[place + 1:])

    def test_figures(self):
        # A register, a number, a sign's number, a row, at each place that has one.
        for form in (
            "number {} 0", "number 0 {}", "sign 0 {}", "sign {} 0", "one {} no", "copy 0 {}", "plus 0 0 {}",
            "plus 0 {} 0",
            "set_first {} 0", "below 0 0 {}", "same {} 0 0", "kind 0 one {}", "kind {} one 0", "tell {}", "jump {}",
        ):
            for right in ("0", "7", "-7", "10", "-10", "100", NINES, "-" + NINES, "1" + "0" * 59):
                self.assertEqual(shown(read(form.replace("{}", right))), form.replace("{}", right))
            for wrong in (
                "00", "01", "-01", "-0", "-00", "+1", "+0", "-", "--1", "1-", "- 1", "1.0", "1e3", "1_0", "0x1", "",
                "9" + NINES,
                "-9" + NINES, "0" + NINES, "1" + "0" * 60, "a", "none", "1a", "a1", ".", "1,", "'1'", "O", "l",
            ):
                self.check_no_row(form.replace("{}", wrong))

    def test_each_other_sign_in_figures(self):
        for sign in SIGNS:
            if sign not in "0123456789":
                for text in (sign, "1" + sign, sign + sign + "1", "1" + sign + "1"):
                    self.check_no_row(f"tell {text}")
                    self.check_no_row(f"number 0 {text}")

    def test_letters(self):
        for form in ("one 0 {}", "kind 0 {} 0"):
            for right in ("a", "z", "none", "pair", "abcdefgh", "stuvwxyz"):
                self.check(form.replace("{}", right), [tuple(
                    int(part) if part == "0" else part for part in form.replace("{}", right).split()
                )])
            for wrong in (
                "", "abcdefghi", "None", "nonE", "NONE", "no_ne", "_", "set_first", "no-ne", "1", "0", "-1", "n0",
                "a1", "no.", "a b",
                "zzzzzzzzz", "no,", "'no'",
            ):
                self.check_no_row(form.replace("{}", wrong))

    def test_each_other_sign_in_letters(self):
        for sign in SIGNS:
            if not sign.islower():
                for text in (sign, "a" + sign, sign + "a", "a" + sign + "a"):
                    self.check_no_row(f"one 0 {text}")
                    self.check_no_row(f"kind 0 {text} 0")

    def test_words(self):
        for text in (
            "ends", "End", "END", "en", "e", "number", "numbers 0 0", "set 0 0", "setfirst 0 0", "set-first 0 0",
            "set first 0 0",
            "told 0", "below_ 0 0 0", "kind_ 0 one 0", "kind", "pair", "none", "jumps 0", "abcdefghi", "sweep",
            "if 0 0", "_",
        ):
            self.check_no_row(text)

    def test_too_many_and_too_few_parts(self):
        for text in list(SAMPLES) + list(NOT_FORMED):
            parts = text.split(" ")
            for more in ("0", "none", "end", "-1"):
                self.check_no_row(f"{text} {more}")
                self.check_no_row(f"{text} {more} {more}")
            for fewer in range(1, len(parts)):
                self.check_no_row(" ".join(parts[:fewer]))
                self.check_no_row(" ".join(parts[1:]))

    def test_a_text_where_a_number_stands_and_the_other_way_round(self):
        for text, row in SAMPLES.items():
            for place, part in enumerate(row):
                if place:
                    parts = text.split(" ")
                    parts[place] = "none" if isinstance(part, int) else "5"
                    self.check_no_row(" ".join(parts))

    def test_a_text_changed_by_one_sign(self):
        for text in ("set_first 3 4", "kind 3 number 0", "one 2 none", "end", "below 7 0 12"):
            for place in range(len(text) + 1):
                for sign in SIGNS:
                    for changed in (text[:place] + sign + text[place + 1:], text[:place] + sign + text[place:]):
                        try:
                            script = read(changed)
                        except NoText:
                            continue
                        # What is read at all is a text that is so written.
                        self.assertEqual(shown(script), changed)
                        self.assertEqual("\n".join(" ".join(map(str, row)) for row in script), changed)


class ReadWhole(Case):
    def check_whole(self, text, most, n):
        told = read_whole(text, most)
        self.assertEqual(told, n)
        self.assertIs(type(told), int)

    def check_no_whole(self, text, most):
        refusal(self, NoText, read_whole, text, most)

    def test_figures_as_many_as_most_one_more_one_fewer(self):
        for most in range(1, 301):
            for figure in "19":
                for count in {1, most - 1, most} - {0}:
                    text = figure + "7" * (count - 1)
                    self.check_whole(text, most, int(text))
                    self.check_whole("-" + text, most, -int(text))
                for count in (most + 1, most + 2, most + 60, 400):
                    if count > most:
                        text = figure + "7" * (count - 1)
                        self.check_no_whole(text, most)
                        self.check_no_whole("-" + text, most)
            self.check_whole("0", most, 0)

    def test_what_is_no_whole_number(self):
        for most in (1, 2, 3, 10, 60, 300):
            for text in (
                "", "-", "--", "-0", "00", "000", "-00", "01", "-01", "+1", "+0", "+", " ", " 1", "1 ", "- 1", "-1 ",
                "1 1", "\n", "1\n",
                "\n1", "-\n1", "1\n1", "0\n", "1-", "--1", "-+1", "1_0", "_1", "1_", "1.0", "1.", ".5", "1e1", "0x1",
                "0b1", "a", "-a",
                "none", "1,000", "'1'", "O", "0 ", " 0", "0" * 300, "-" + "0" * 300,
            ):
                self.check_no_whole(text, most)

    def test_each_sign_alone_and_beside_figures(self):
        for sign in SIGNS:
            if sign not in "0123456789":
                for text in (sign, "1" + sign, "1" + sign + "1", sign + "0", sign + sign + "1"):
                    self.check_no_whole(text, 300)
                if sign != "-":
                    self.check_no_whole(sign + "1", 300)

    def test_small_ones(self):
        for n in range(-1200, 1200):
            self.check_whole(str(n), 4, n)
        for n in range(-9, 10):
            self.check_whole(str(n), 1, n)


if __name__ == "__main__":
    unittest.main()
