"""Points 2 and 23: images as texts, and the images that texts are of."""

import copy
import itertools
import unittest

from markwords.books import read_image, shown_image
from markwords.errors import NoText
from markwords.images import image_fault, image_of
from markwords.store import Store
from tests.judged import OUTSIDE, WORDS, image
from tests.laid import FULL, layings_of
from tests.walks import by_chance, grows_too_far, outcome
from tests.worths import refusal

NINES = "9" * 60
GREAT = int(NINES)
SIGNS = [sign for sign in map(chr, range(32, 127)) if sign != "%"] + ["\n"]
MARK_ROWS = ["mark sign 1 0", "mark small 3 1", "mark far 3 3", "mark pair 3 5", "mark one 3 7"]
WORD_ROW = "words " + " ".join(map(str, WORDS))
OUTSIDE_ROW = "outside " + " ".join(map(str, OUTSIDE))
ROWS = ["laying 8"] + MARK_ROWS + ["room 400", WORD_ROW, OUTSIDE_ROW]
TEXT = "\n".join(ROWS)
# Where a number stands: a text with a hole, and the image with the number in it.
HOLES = {
    "laying {}\nroom 1\nwords\noutside": lambda n: ((n, []), 1, [], []),
    "laying 1\nroom {}\nwords\noutside": lambda n: ((1, []), n, [], []),
    "laying 1\nroom 1\nwords {}\noutside": lambda n: ((1, []), 1, [n], []),
    "laying 1\nroom 1\nwords 5 {} 6\noutside": lambda n: ((1, []), 1, [5, n, 6], []),
    "laying 1\nroom 1\nwords\noutside {}": lambda n: ((1, []), 1, [], [n]),
    "laying 1\nroom 1\nwords\noutside 0 {}": lambda n: ((1, []), 1, [], [0, n]),
    "laying 1\nmark a {} 2\nroom 1\nwords\noutside": lambda n: ((1, [("a", n, 2)]), 1, [], []),
    "laying 1\nmark a 2 {}\nroom 1\nwords\noutside": lambda n: ((1, [("a", 2, n)]), 1, [], []),
}


def written(image):
    """An image's text, written without the program."""
    (bits, marks), room, words, outside = image
    rows = [f"laying {bits}"] + [f"mark {kind} {width} {pattern}" for kind, width, pattern in marks] + [f"room {room}"]
    return "\n".join(rows + [" ".join(map(str, ["words"] + words)), " ".join(map(str, ["outside"] + outside))])


class Case(unittest.TestCase):
    def check(self, text, wanted):
        """The text is the image's, and read again it is the image, in lists of its own."""
        kept = copy.deepcopy(wanted)
        self.assertEqual(shown_image(wanted), text)
        self.assertEqual(wanted, kept)
        one, other = read_image(text), read_image(text)
        self.assertEqual(one, wanted)
        lists = [found for told in (one, other, wanted) for found in (told[0][1], told[2], told[3])]
        self.assertEqual(len({id(told) for told in lists}), 9)
        self.assertEqual({type(told) for told in lists}, {list})
        self.assertEqual({type(told) for told in [one, one[0]] + one[0][1]}, {tuple})
        numbers = [one[0][0], one[1]] + one[2] + one[3] + [part for mark in one[0][1] for part in mark[1:]]
        self.assertEqual({type(number) for number in numbers}, {int})

    def check_none(self, text):
        refusal(self, NoText, read_image, text)


class Shown(Case):
    def test_row_by_row(self):
        self.check(TEXT, image())
        text = "laying 8\nmark sign 1 0\nmark small 3 1\nmark far 3 3\nmark pair 3 5\nmark one 3 7\n"
        self.check(text + "room 25\nwords 7 7 7 7 7 7 7 7\noutside", image_of(Store((8, FULL), 25)))

    def test_no_marks_no_words_nothing_outside(self):
        self.check("laying 8\nroom 0\nwords\noutside", ((8, []), 0, [], []))
        self.check("laying 8\nroom 0\nwords 0\noutside", ((8, []), 0, [0], []))
        self.check("laying 8\nroom 0\nwords\noutside 0", ((8, []), 0, [], [0]))
        self.check("laying 8\nmark a 0 0\nroom 0\nwords\noutside", ((8, [("a", 0, 0)]), 0, [], []))
        self.check("\n".join(ROWS[:6] + ["room 400", "words", OUTSIDE_ROW]), image(words=[]))
        self.check("\n".join(ROWS[:8] + ["outside"]), image(outside=[]))

    def test_numbers(self):
        numbers = [0, 1, -1, 9, 10, -10, 100, GREAT, -GREAT, 10 ** 59, -(10 ** 59), 2 ** 64, 7 ** 60]
        for text, wanted in HOLES.items():
            for n in numbers:
                self.check(text.replace("{}", str(n)), wanted(n))
        row = " ".join(map(str, ["words"] + numbers))
        self.check(f"laying 8\nroom 9\n{row}\noutside", ((8, []), 9, numbers, []))

    def test_kinds(self):
        for kind in ("a", "z", "small", "abcdefgh", "stuvwxyz", "mark", "laying", "room", "words", "outside", "number"):
            self.check(f"laying 8\nmark {kind} 1 2\nroom 3\nwords\noutside", ((8, [(kind, 1, 2)]), 3, [], []))

    def test_marks_as_many_as_there_are(self):
        for count in (1, 4, 6, 50, 400):
            marks = [(kind, width, pattern) for kind, width, pattern in (FULL * 100)[:count]]
            self.check(written(((8, marks), 3, [], [])), ((8, marks), 3, [], []))

    def test_words_as_many_as_there_are(self):
        for count in (1, 7, 9, 400):
            self.check(written(image(words=[3] * count)), image(words=[3] * count))
            self.check(written(image(outside=[300] * count)), image(outside=[300] * count))

    def test_images_with_faults(self):
        for faulty in (
            image(laying=(7, FULL)), image(laying=(8, FULL[:4])), image(laying=(-8, [])), image(room=-1),
            image(room=401),
            image(words=WORDS[1:]), image(words=[-1] + WORDS[1:]), image(words=[256] + WORDS[1:]),
            image(outside=[3] + OUTSIDE),
            image(outside=OUTSIDE[:-1]), image(outside=[4, 0] + OUTSIDE[2:]), image(outside=[4, 1] + OUTSIDE[2:]),
            image(words=[31] + WORDS[1:]), image(words=[11] + WORDS[1:]),
            image(laying=(8, [("zebra", 1, 0)] + FULL[1:])),
            image(laying=(8, [("small", -1, -5)] * 3)), image(words=[GREAT] * 8), image(outside=[-GREAT] * 40),
        ):
            self.assertIsNotNone(image_fault(faulty))
            self.check(written(faulty), faulty)
            self.assertEqual(image_fault(read_image(shown_image(faulty))), image_fault(faulty))

    def test_images_of_stores(self):
        for bits in (8, 13, 32):
            for place, laying in enumerate(layings_of(bits)):
                store = Store(laying, 90)
                for step, deed in enumerate(by_chance(bits + place, 60, ["pair"] * 3)):
                    if not grows_too_far(store, deed):
                        outcome(store, deed)
                    if step % 6 == 0:
                        self.check(written(image_of(store)), image_of(store))


class ReadRefuses(Case):
    def test_no_signs(self):
        for text in ("", " ", "\n", "\n\n\n", "\n\n\n\n", "   ", "-", "0", "end", "tell 0\nend"):
            self.check_none(text)

    def test_blanks(self):
        for place, row in enumerate(ROWS):
            for changed in (" " + row, row + " ", row.replace(" ", "  ", 1), row.replace(" ", "", 1)):
                self.check_none("\n".join(ROWS[:place] + [changed] + ROWS[place + 1:]))
        for place in range(len(ROWS) + 1):
            self.check_none("\n".join(ROWS[:place] + [" "] + ROWS[place:]))
        for rows in ("words \noutside", "words\noutside ", " words\noutside", "words\n outside"):
            self.check_none("laying 8\nroom 0\n" + rows)

    def test_line_feeds(self):
        self.check_none("\n" + TEXT)
        self.check_none(TEXT + "\n")
        for place in range(len(ROWS) + 1):
            self.check_none("\n".join(ROWS[:place] + [""] + ROWS[place:]))
        for place, sign in enumerate(TEXT):
            if sign == "\n":
                self.check_none(TEXT[:place] + TEXT[place + 1:])
                self.check_none(TEXT[:place] + " " + TEXT[place + 1:])
            if sign == " ":
                self.check_none(TEXT[:place] + "\n" + TEXT[place + 1:])

    def test_figures(self):
        for text in HOLES:
            for wrong in (
                "00", "01", "-01", "-0", "-00", "+1", "+0", "-", "--1", "1-", "1.0", "1e3", "1_0", "0x1", "9" + NINES,
                "-9" + NINES,
                "0" + NINES, "1" + "0" * 60, "a", "none", "1a", ".", "1,", "O", "",
            ):
                self.check_none(text.replace("{}", wrong))

    def test_kinds(self):
        for wrong in (
            "", "abcdefghi", "Small", "SMALL", "smalL", "sm_all", "_", "set_first", "1", "0", "-1", "a1", "a.", "a b", "sm-all",
        ):
            self.check_none(f"laying 8\nmark {wrong} 1 2\nroom 3\nwords\noutside")
            self.check_none("\n".join(ROWS[:1] + [f"mark {wrong} 1 0"] + ROWS[2:]))

    def test_rows_left_out(self):
        for place in range(len(ROWS)):
            text = "\n".join(ROWS[:place] + ROWS[place + 1:])
            if place in range(1, 6):
                self.assertEqual(read_image(text), image(laying=(8, FULL[:place - 1] + FULL[place:])))
            else:
                self.check_none(text)
        for count in range(len(ROWS)):
            self.check_none("\n".join(ROWS[:count]))
        bare = ["laying 8", "room 0", "words", "outside"]
        for kept in itertools.product((True, False), repeat=4):
            if not all(kept):
                self.check_none("\n".join(row for row, keep in zip(bare, kept) if keep))

    def test_rows_twice(self):
        for place, row in enumerate(ROWS):
            text = "\n".join(ROWS[:place] + [row] + ROWS[place:])
            if place in range(1, 6):
                self.assertEqual(read_image(text), image(laying=(8, FULL[:place] + FULL[place - 1:])))
            else:
                self.check_none(text)
            if place not in range(1, 6):
                self.check_none("\n".join(ROWS + [row]))
                self.check_none("\n".join([row] + ROWS))
        self.check_none(TEXT + "\n" + TEXT)

    def test_rows_in_another_order(self):
        bare = ["laying 8", "mark a 1 2", "room 0", "words", "outside"]
        for order in itertools.permutations(bare):
            if list(order) != bare:
                self.check_none("\n".join(order))
        for one, other in itertools.combinations(range(len(ROWS)), 2):
            rows = list(ROWS)
            rows[one], rows[other] = rows[other], rows[one]
            if one in range(1, 6) and other in range(1, 6):
                self.assertEqual(read_image("\n".join(rows))[0][1][one - 1], FULL[other - 1])
            else:
                self.check_none("\n".join(rows))

    def test_a_head_alone(self):
        for place in range(7):
            self.check_none("\n".join(ROWS[:place] + [ROWS[place].split(" ")[0]] + ROWS[place + 1:]))
        for row in ROWS + ["laying", "mark", "room", "words", "outside"]:
            self.check_none(row)

    def test_too_few_and_too_many_parts(self):
        for place in range(1, 6):
            parts = ROWS[place].split(" ")
            for changed in (
                parts[:1], parts[:2], parts[:3], parts[1:], parts + ["0"], parts + ["a"], parts + ["0", "0", "0"],
                parts[:1] + parts[2:],
                [parts[0], parts[2], parts[1], parts[3]], [parts[0], parts[2], parts[3], parts[1]],
            ):
                self.check_none("\n".join(ROWS[:place] + [" ".join(changed)] + ROWS[place + 1:]))
        for place in (0, 6):
            for more in (" 0", " 8", " -1", " a", " 1 1"):
                self.check_none("\n".join(ROWS[:place] + [ROWS[place] + more] + ROWS[place + 1:]))
        for place in (7, 8):
            for more in (" a", " none", " -", " 0 a", " 0 01"):
                self.check_none("\n".join(ROWS[:place] + [ROWS[place] + more] + ROWS[place + 1:]))

    def test_other_heads(self):
        for place, row in enumerate(ROWS):
            head = row.split(" ")[0]
            for other in (head.upper(), head.title(), head + "s", head[:-1], "", "end", "image", "_"):
                self.check_none("\n".join(ROWS[:place] + [other + row[len(head):]] + ROWS[place + 1:]))

    def test_a_text_changed_by_one_sign(self):
        text = "laying 8\nmark far 3 0\nroom -4\nwords 0 1\noutside"
        for place in range(len(text) + 1):
            for sign in SIGNS:
                ahead, behind = text[:place], text[place + 1:]
                for changed in (ahead + sign + behind, ahead + sign + text[place:], ahead + behind):
                    try:
                        told = read_image(changed)
                    except NoText:
                        continue
                    # What is read at all is a text that is so written.
                    self.assertEqual((written(told), shown_image(told)), (changed, changed))


if __name__ == "__main__":
    unittest.main()
