"""The refusals of the program, one class for each."""


class WordError(ValueError):
    """Any refusal."""


class WrongKind(WordError):
    """A deed found a worth of another kind than it needs: in q where part is 1, in p where it is 2."""

    def __init__(self, part):
        WordError.__init__(self, f"part {part} is of the wrong kind")
        self.part = part


class Nought(WordError):
    """A number was to be divided by 0."""


class NoRoom(WordError):
    """A store lacks room."""


class Faulty(WordError):
    """An image has a fault: what it is by word, where it is by k."""

    def __init__(self, word, k):
        WordError.__init__(self, f"{word} {k}")
        self.word = word
        self.k = k


class NoText(WordError):
    """A text is not written as it should be."""


class NotFormed(WordError):
    """A script is not formed."""
