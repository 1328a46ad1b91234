"""Point 24: answers, and the refusals of what is handed in for them."""

import unittest

from markwords.books import answer, shown_image
from markwords.errors import Faulty, NoText, NotFormed
from markwords.images import image_of, opened
from markwords.runs import go
from markwords.scripts import shown
from markwords.store import Store
from tests.judged import OUTSIDE, WORDS, image
from tests.laid import FULL, OPEN, LaidModel, layings_of, row_for, word_for
from tests.scripted import ALLOWED, model_go, runs_by_chance
from tests.walks import by_chance, grows_too_far, outcome
from tests.worths import KINDS, REGISTERS, refusal

LAYINGS = [(8, FULL), (9, OPEN), (16, OPEN), (32, FULL)]
NEW = shown_image(image_of(Store((8, FULL), 400)))
HELD = shown_image(image())


def said(end, news):
    """The text of an end and news, written without the program."""
    text = ""
    for worth in news:
        text += (f"sign:{worth[1]}" if isinstance(worth, tuple) else str(worth)) + " "
    text += "/"
    for part in end:
        text += " " + str(part)
    return text


class Case(unittest.TestCase):
    def check(self, text, wanted, most=ALLOWED, room=400):
        """The same answer in new stores under several layings."""
        for laying in LAYINGS:
            self.assertEqual(answer(text, shown_image(image_of(Store(laying, room))), most), wanted, laying)


class Said(Case):
    def test_no_news(self):
        self.check("end", "/ end")
        self.check("number 0 5\nend", "/ end")

    def test_numbers(self):
        for n in (0, 7, -7, 15, 16, -17, 255, 256, 10 ** 59, -(10 ** 59), 10 ** 60 - 1):
            self.check(f"number 3 {n}\ntell 3\nend", f"{n} / end")

    def test_signs(self):
        for k in range(128):
            self.check(f"sign 3 {k}\ntell 3\nend", f"sign:{k} / end")

    def test_the_three_and_pairs(self):
        for text in ("none", "no", "yes"):
            self.check(f"one 6 {text}\ntell 6\nend", f"{text} / end")
        self.check("pair 2 0 1\ntell 2\nend", "pair / end")

    def test_news_in_order(self):
        script = "number 0 -5\nsign 1 0\none 2 yes\npair 3 0 0\ntell 3\ntell 0\ntell 7\ntell 1\ntell 2\ntell 0\nend"
        self.check(script, "pair -5 none sign:0 yes -5 / end")

    def test_each_end(self):
        self.check("tell 0\nend", "none / end")
        self.check("plus 0 1 2\nend", "/ kind 0 1")
        self.check("number 1 5\ntell 1\nplus 0 1 2\nend", "5 / kind 2 2")
        self.check("tell 0\ntell 1\nfirst 0 1\nend", "none none / kind 2 1")
        self.check("number 1 0\nover 0 1 1\nend", "/ nought 1")
        self.check("number 1 0\ntell 1\nrest 0 1 1\nend", "0 / nought 2")
        self.check("pair 0 0 0\nend", "/ room 0", room=2)
        self.check("tell 0\nsign 1 9\ntell 1\npair 0 0 0\nend", "none sign:9 / room 3", room=2)
        self.check("jump 0", "/ far 0")
        self.check("tell 0\njump 0", "none none none / far 1", most=5)

    def test_how_many_rows_are_allowed(self):
        text = "number 0 1\ntell 0\nnumber 0 2\ntell 0\nend"
        wants = ["/ far 0", "/ far 1", "1 / far 2", "1 / far 3", "1 2 / far 4", "1 2 / end", "1 2 / end"]
        for most, wanted in enumerate(wants):
            self.check(text, wanted, most)
        self.check("end", "/ far 0", 0)
        self.check("end", "/ end", 1)

    def test_great_numbers_by_all_their_figures(self):
        # The greatest number that an outside has room for, of 3844 figures, and others of as many limbs.
        laying = (32, FULL)
        none = word_for(laying, "none")
        for n in (2 ** (32 * 399) - 1, -(2 ** (32 * 399) - 1), 10 ** 3843, -(10 ** 3843) + 1):
            held = (laying, 400, [word_for(laying, ("far", 0))] + [none] * 7, row_for(laying, n))
            self.assertEqual(answer("tell 0\ncopy 5 0\ntell 5\nend", shown_image(held), 400), f"{n} {n} / end")

    def test_numbers_with_noughts_within(self):
        broad = shown_image(image_of(Store((32, OPEN), 400)))
        text = f"number 0 {10 ** 59}\nnumber 1 10\ntimes 2 0 1\ntell 2\ntimes 2 2 2\ntell 2\n"
        text += "plus 3 2 1\ntell 3\nless 3 2 1\ntell 3\nend"
        numbers = [10 ** 60, 10 ** 120, 10 ** 120 + 10, 10 ** 120 - 10]
        self.assertEqual(answer(text, broad, 400), " ".join(map(str, numbers)) + " / end")


class InTheStore(Case):
    def test_the_store_as_the_image_has_it(self):
        text = "\n".join([f"tell {q}" for q in REGISTERS] + ["end"])
        self.assertEqual(answer(text, HELD, 400), "16 pair none no 5 sign:127 pair -256 / end")
        self.assertEqual(answer("first 0 1\nsame 0 1 3\nend\nsecond 0 1\ntell 0\nend", HELD, 400), "-256 / end")

    def test_its_room(self):
        full = shown_image(image(room=11))
        self.assertEqual(answer("pair 0 0 0\nend", full, 400), "/ room 0")
        self.assertEqual(answer("one 7 no\npair 0 0 0\nend", full, 400), "/ room 1")
        self.assertEqual(answer("one 6 no\npair 2 0 0\ntell 2\nend", full, 400), "pair / end")

    def test_each_answer_starts_from_the_image(self):
        for turn in range(2):
            self.assertEqual(answer("tell 0\nnumber 0 3\ntell 0\nend", HELD, 400), "16 3 / end")

    def test_as_a_run_in_the_store_that_is_opened(self):
        layings = [laying for bits in (8, 9, 12, 16, 32) for laying in layings_of(bits)]
        met = {}
        for turn, (script, end, news) in enumerate(runs_by_chance(80000, 250, ["pair", "over"])):
            laying, room = layings[turn % len(layings)], [400, 40, 12, 3][turn % 4]
            script = [("plus",) + row[1:] if row[0] == "times" else row for row in script]
            store, model = Store(laying, room), LaidModel(laying, room)
            for deed in by_chance(turn, turn % 20, ["pair"]):
                if not grows_too_far(model, deed):
                    outcome(store, deed)
                    outcome(model, deed)
            text = shown_image(image_of(store))
            told = answer(shown(script), text, 100)
            self.assertEqual(told, said(*model_go(script, model, 100)))
            self.assertEqual(told, said(*go(script, opened(image_of(store)), 100)))
            met[told.split("/ ")[1].split(" ")[0]] = True
        self.assertEqual(set(met), {"end", "kind", "nought", "room", "far"})


class Refused(Case):
    NO_SCRIPT = ["", "tell", "end ", "tell 08\nend", "sweep\nend", "end\n", "END", "tell 0\n\nend"]
    NOT_FORMED = ["tell 0", "tell 8\nend", "jump 1", "one 0 maybe\nend", "sign 0 128\nend", "kind 0 small 1\nend"]
    NOT_FORMED += ["\n".join(["end"] * 61)]
    NO_IMAGE = ["", "end", HELD + "\n", HELD + " ", HELD.replace("laying", "Laying")]
    NO_IMAGE += [HELD.replace("room 400\n", ""), HELD.replace("400", "0400")]
    FAULTS = [
        (image(laying=(7, FULL)), "laying", 0), (image(laying=(8, FULL[:4])), "laying", 0), (image(room=10), "room", 0),
        (image(room=401), "room", 0), (image(WORDS[1:]), "room", 0), (image([256] + WORDS[1:]), "word", 0),
        (image(outside=OUTSIDE[:10] + [-1]), "word", 18), (image(outside=[0] + OUTSIDE[1:]), "head", 8),
        (image(outside=OUTSIDE[:10]), "end", 16), (image(outside=[4, 0] + OUTSIDE[2:]), "limb", 8),
        (image(outside=[4, 1] + OUTSIDE[2:]), "small", 8), (image(WORDS[:7] + [31]), "kind", 7),
        (image(outside=OUTSIDE[:9] + [255, 7]), "kind", 17), (image(WORDS[:2] + [11] + WORDS[3:]), "address", 2),
        (image(outside=OUTSIDE[:10] + [5]), "address", 18), (image([10 ** 59] * 8), "word", 0),
    ]

    def check_faulty(self, text, faulty, word, k, most):
        error = refusal(self, Faulty, answer, text, shown_image(faulty), most)
        self.assertEqual((error.word, error.k), (word, k))

    def test_each_alone(self):
        for most in (0, 400):
            for text in self.NO_SCRIPT:
                refusal(self, NoText, answer, text, HELD, most)
            for text in self.NOT_FORMED:
                refusal(self, NotFormed, answer, text, HELD, most)
            for text in self.NO_IMAGE:
                refusal(self, NoText, answer, "end", text, most)
            for faulty, word, k in self.FAULTS:
                self.check_faulty("end", faulty, word, k, most)

    def test_two_at_once_in_their_order(self):
        faulty = shown_image(self.FAULTS[0][0])
        for text in self.NO_SCRIPT:
            refusal(self, NoText, answer, text, faulty, 400)
            for other in self.NO_IMAGE:
                refusal(self, NoText, answer, text, other, 400)
        for text in self.NOT_FORMED:
            for other in self.NO_IMAGE:
                refusal(self, NotFormed, answer, text, other, 400)
            for wrong, word, k in self.FAULTS:
                refusal(self, NotFormed, answer, text, shown_image(wrong), 400)
        for wrong, word, k in self.FAULTS:
            refusal(self, NoText, answer, "end", shown_image(wrong) + "\n", 400)
            refusal(self, NoText, answer, "end ", shown_image(wrong), 400)

    def test_ends_are_no_refusals(self):
        for kind in KINDS:
            self.assertIn(answer(f"kind 2 {kind} 2\nfirst 0 2\nend", HELD, 400), ("/ kind 1 1", "/ end"))
        self.assertEqual(answer("tell 0\nend", NEW, 0), "/ far 0")


if __name__ == "__main__":
    unittest.main()
