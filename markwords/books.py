"""Texts of images, and answers of scripts that are gone in the stores of images."""

from markwords.errors import NoText, NotFormed
from markwords.images import opened
from markwords.runs import go
from markwords.scripts import formed, read, read_letters, read_number, written_row

# The rows of text behind the marks: room, words, outside.
ROWS_BEHIND_MARKS = 3


def head_row(head, parts):
    """A row of text: a head and its parts."""
    return written_row([head] + parts)


def shown_image(image):
    """An image, also one with a fault, as a text."""
    laying = image[0]
    rows = [head_row("laying", [laying[0]])]
    for mark in laying[1]:
        rows.append(head_row("mark", list(mark)))
    rows.append(head_row("room", [image[1]]))
    rows.append(head_row("words", image[2]))
    rows.append(head_row("outside", image[3]))
    return "\n".join(rows)


def parts_behind(head, row):
    """The parts of a row of text that has this head."""
    parts = row.split(" ")
    if parts[0] != head:
        raise NoText("another head is asked for")
    return parts[1:]


def read_numbers(head, row):
    """The whole numbers of a row of text that has this head."""
    return [read_number(part) for part in parts_behind(head, row)]


def read_one_number(head, row):
    """The only whole number of a row of text that has this head."""
    numbers = read_numbers(head, row)
    if len(numbers) != 1:
        raise NoText("one number is asked for")
    return numbers[0]


def read_mark(row):
    """A mark, a tuple (kind, width, pattern)."""
    parts = parts_behind("mark", row)
    if len(parts) != 3:
        raise NoText("a mark has three parts")
    return (read_letters(parts[0]), read_number(parts[1]), read_number(parts[2]))


def read_image(text):
    """The image that a text is of."""
    rows = text.split("\n")
    behind = len(rows) - ROWS_BEHIND_MARKS
    if behind < 1:
        raise NoText("rows are left out")
    laying = (read_one_number("laying", rows[0]), [read_mark(row) for row in rows[1:behind]])
    room = read_one_number("room", rows[behind])
    return (laying, room, read_numbers("words", rows[behind + 1]), read_numbers("outside", rows[behind + 2]))


def news_text(worth):
    """The text of what was told."""
    if isinstance(worth, tuple):
        k = worth[1]
        return f"sign:{k}"
    return str(worth)


def answer_text(end, news):
    """The text of an end and the news ahead of it."""
    return " ".join([news_text(worth) for worth in news] + ["/", written_row(end)])


def answer(text, image_text, most):
    """The text of what is told where a script's text is gone in the store of an image's text, and of how it ends."""
    script = read(text)
    if not formed(script):
        raise NotFormed("the script is not formed")
    told = go(script, opened(read_image(image_text)), most)
    return answer_text(told[0], told[1])
