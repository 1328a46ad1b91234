"""Runs of scripts, in stores and plain stores."""

from markwords.anew import laid_anew
from markwords.errors import NoRoom, Nought, WrongKind
from markwords.plain import PlainStore
from markwords.store import Store


class Moves:
    """The store that a run is in, and when it is laid anew under which laying."""

    def __init__(self, store, layings, when):
        self.store = store
        self.layings = layings
        self.when = when
        self.turn = 1

    def move(self):
        laying = self.layings[self.turn % len(self.layings)]
        try:
            self.store = laid_anew(self.store, laying, self.store.room)
        except NoRoom:
            # The turn stays, so that this laying is asked for again.
            return
        self.turn += 1

    def ahead(self, gone):
        if gone < len(self.when) and self.when[gone]:
            self.move()


def do_with_worth(store, word, r, worth):
    """A deed that puts a worth of its own into r."""
    if word == "number":
        store.number(r, worth)
    elif word == "sign":
        store.sign(r, worth)
    else:
        store.one(r, worth)


def do_with_two(store, word, one, other):
    """A deed with two registers."""
    if word == "copy":
        store.copy(one, other)
    elif word == "first":
        store.first(one, other)
    elif word == "second":
        store.second(one, other)
    elif word == "set_first":
        store.set_first(one, other)
    else:
        store.set_second(one, other)


def do_with_three(store, word, r, q, p):
    """A deed with three registers."""
    if word == "plus":
        store.plus(r, q, p)
    elif word == "less":
        store.less(r, q, p)
    elif word == "times":
        store.times(r, q, p)
    elif word == "over":
        store.over(r, q, p)
    elif word == "rest":
        store.rest(r, q, p)
    else:
        store.pair(r, q, p)


def do_deed(store, row):
    """The deed of a row that changes the store."""
    word = row[0]
    if word in ("number", "sign", "one"):
        do_with_worth(store, word, row[1], row[2])
    elif len(row) == 3:
        do_with_two(store, word, row[1], row[2])
    else:
        do_with_three(store, word, row[1], row[2], row[3])


def holds(store, row):
    """Whether what a row asks is so."""
    if row[0] == "below":
        return store.below(row[1], row[2])
    if row[0] == "same":
        return store.same(row[1], row[2])
    return store.kind(row[1]) == row[2]


def row_behind(store, row, at, news):
    """Goes row at, and tells the number of the row to go on at."""
    word = row[0]
    if word == "jump":
        return row[1]
    if word in ("below", "same", "kind"):
        return row[3] if holds(store, row) else at + 1
    if word == "tell":
        news.append(store.told(row[1]))
    else:
        do_deed(store, row)
    return at + 1


def gone_through(script, moves, most):
    """The end and the news of a run of at most so many rows."""
    news = []
    at = 0
    for gone in range(most):
        if script[at][0] == "end":
            return (("end",), news)
        moves.ahead(gone)
        try:
            at = row_behind(moves.store, script[at], at, news)
        except WrongKind as refusal:
            return (("kind", at, refusal.part), news)
        except Nought:
            return (("nought", at), news)
        except NoRoom:
            return (("room", at), news)
    return (("far", at), news)


def go(script, store, most):
    """The end and the news of a script gone in a store or a plain store, as it stands."""
    return gone_through(script, Moves(store, [], []), most)


def plain_run(script, most):
    """The end and the news of a plain run."""
    return go(script, PlainStore(), most)


def run(script, laying, room, most):
    """The end, the news and the counts of a run in a new store."""
    store = Store(laying, room)
    told = go(script, store, most)
    return (told[0], told[1], (store.quick, store.slow, store.sweeps))


def moved_run(script, layings, room, most, when):
    """The end and the news of a run whose store is laid anew ahead of each row that when has True for."""
    return gone_through(script, Moves(Store(layings[0], room), layings, when), most)
