"""Scripts: whether they are formed, and their texts."""

from markwords.errors import NoText
from markwords.plain import REGISTERS
from markwords.words import SIGNS, THREE

# The parts of each word's row: r a number of a register, n a whole number, k a sign's number, t a row's number, three
# one of the three texts, kind a kind of a worth.
FORMS = {
    "number": ("r", "n"), "sign": ("r", "k"), "one": ("r", "three"), "copy": ("r", "r"),
    "plus": ("r", "r", "r"), "less": ("r", "r", "r"), "times": ("r", "r", "r"), "over": ("r", "r", "r"),
    "rest": ("r", "r", "r"), "pair": ("r", "r", "r"), "first": ("r", "r"), "second": ("r", "r"),
    "set_first": ("r", "r"), "set_second": ("r", "r"), "below": ("r", "r", "t"), "same": ("r", "r", "t"),
    "kind": ("r", "kind", "t"), "tell": ("r",), "jump": ("t",), "end": (),
}
TEXT_PARTS = ("three", "kind")
LAST_WORDS = ("end", "jump")
KINDS_OF_WORTHS = ("number", "sign", "one", "pair")
MOST_ROWS = 60
MOST_FIGURES = 60
MOST_LETTERS = 8
FIGURES = "0123456789"
LETTERS = "abcdefghijklmnopqrstuvwxyz"


def is_whole(part):
    """Whether a part of a row is a whole number."""
    return isinstance(part, int) and not isinstance(part, bool)


def part_goes(form, part, rows):
    """Whether a part of a row is as its form asks, in a script of so many rows."""
    if form == "three":
        return part in THREE
    if form == "kind":
        return part in KINDS_OF_WORTHS
    if not is_whole(part):
        return False
    if form == "n":
        return True
    bounds = {"r": REGISTERS, "k": SIGNS, "t": rows}
    return 0 <= part < bounds[form]


def has_parts(row):
    """Whether a row has a word of the scripts' and as many parts behind it as that word asks for."""
    return row[0] in FORMS and len(row) == len(FORMS[row[0]]) + 1


def row_goes(row, rows):
    """Whether a row is formed, in a script of so many rows."""
    if not has_parts(row):
        return False
    return all([part_goes(form, part, rows) for form, part in zip(FORMS[row[0]], row[1:])])


def formed(script):
    """Whether a script is formed."""
    rows = len(script)
    if not 1 <= rows <= MOST_ROWS or script[-1][0] not in LAST_WORDS:
        return False
    return all([row_goes(row, rows) for row in script])


def written_row(parts):
    """A row of text: its parts, texts and whole numbers, with one blank between."""
    return " ".join([str(part) for part in parts])


def shown(script):
    """A script as a text."""
    return "\n".join([written_row(row) for row in script])


def consists_of(text, signs):
    """Whether all signs of a text are among these."""
    return all([sign in signs for sign in text])


def read_whole(text, most):
    """The whole number that a text of at most so many figures is."""
    figures = text[1:] if text.startswith("-") else text
    if not 1 <= len(figures) <= most or not consists_of(figures, FIGURES):
        raise NoText("no whole number")
    if figures[0] == "0" and text != "0":
        raise NoText("a 0 ahead")
    return int(text)


def read_number(text):
    """The whole number that a part of a row of text is."""
    return read_whole(text, MOST_FIGURES)


def read_letters(text):
    """The text, where it is one to eight small letters."""
    if not 1 <= len(text) <= MOST_LETTERS or not consists_of(text, LETTERS):
        raise NoText("not one to eight small letters")
    return text


def read_part(form, text):
    """A part of a script's row, by its form."""
    return read_letters(text) if form in TEXT_PARTS else read_number(text)


def read_row(text):
    """A script's row."""
    parts = text.split(" ")
    if not has_parts(parts):
        raise NoText("no row of a script")
    return tuple(parts[:1] + [read_part(form, part) for form, part in zip(FORMS[parts[0]], parts[1:])])


def read(text):
    """The script that a text is of."""
    return [read_row(row) for row in text.split("\n")]
