"""Scripts, runs and stores laid anew as the document tells them, written without the program."""

import random

from tests.laid import LaidModel, Refused, Row, great, most_words, small
from tests.walks import MOST_AMOUNT, number_by_chance
from tests.worths import KINDS, THREE, Twosome

# What stands behind each word: r, q, p registers, n a number, k a sign's, t a row, o one of the three, w a kind.
PARTS = {
    "number": "rn", "sign": "rk", "one": "ro", "copy": "rq", "plus": "rqp", "less": "rqp", "times": "rqp",
    "over": "rqp", "rest": "rqp", "pair": "rqp", "first": "rq", "second": "rq", "set_first": "qp", "set_second": "qp",
    "below": "qpt", "same": "qpt", "kind": "qwt", "tell": "q", "jump": "t", "end": "",
}
ALLOWED = 400


class TooFar(Exception):
    """A number of more figures than a test has time for."""


class Plain(LaidModel):
    """The model without any bound of room; what is in words and what is not cannot be seen by scripts."""

    def __init__(self):
        super().__init__((32, [("sign", 1, 0), ("small", 3, 1), ("far", 3, 3), ("pair", 3, 5), ("one", 3, 7)]), 0)

    def lay(self, thing):
        return thing

    def number(self, r, n):
        if abs(n) > MOST_AMOUNT:
            raise TooFar()
        super().number(r, n)


class Reaching(LaidModel):
    """The model of a store that asks at each new thing whether it finds room together with what is reached then."""

    def lay(self, thing):
        if sum(map(self.size, self.reached())) + self.size(thing) > most_words(self.laying, self.room):
            raise Refused("NoRoom")
        return thing


class Anew:
    """A model laid anew: the new things in the order that they are laid in."""

    def __init__(self, old, laying, room):
        self.model = type(old)(laying, room)
        self.old_laying = old.laying
        self.pairs = []
        self.rows = []
        self.model.worths = [self.worth(worth) for worth in old.worths]
        for was, pair in self.pairs:
            pair.first = self.worth(was.first)
            pair.second = self.worth(was.second)
        if sum(map(self.model.size, self.model.things)) > most_words(laying, room):
            raise Refused("NoRoom")

    def laid(self, thing):
        self.model.things.append(thing)
        return thing

    def number(self, n):
        if small(self.model.laying, n):
            return n
        if great(self.model.laying, n):
            raise Refused("NoRoom")
        return self.laid(Row(n))

    def worth(self, worth):
        if isinstance(worth, int):
            return self.number(worth)
        if isinstance(worth, Row):
            found = [new for was, new in self.rows if was is worth]
            if not found:
                found.append(self.number(worth.n))
                self.rows.append((worth, found[0]))
            return found[0]
        if isinstance(worth, Twosome):
            found = [pair for was, pair in self.pairs if was is worth]
            if not found:
                found.append(self.laid(Twosome(None, None)))
                # The loop of __init__ walks this list while it grows: it is the queue.
                self.pairs.append((worth, found[0]))
            return found[0]
        return worth


def model_anew(old, laying, room):
    """The model of a store laid anew, or Refused."""
    return Anew(old, laying, room).model


def counts_of(store):
    return (store.quick, store.slow, store.sweeps)


def model_go(script, model, most, ahead=None):
    """The end and the news of a script in a model; ahead tells the model for the row behind so many rows."""
    at, gone, news = 0, 0, []
    while True:
        if gone == most:
            return ("far", at), news
        word, *parts = script[at]
        if word == "end":
            return ("end",), news
        if ahead:
            model = ahead(model, gone)
        on = at + 1
        try:
            if word == "jump":
                on = parts[0]
            elif word == "kind":
                on = parts[2] if model.kind(parts[0]) == parts[1] else on
            elif word == "tell":
                news.append(model.told(parts[0]))
            elif word in ("below", "same"):
                on = parts[2] if getattr(model, word)(*parts[:2]) else on
            else:
                getattr(model, word)(*parts)
        except Refused as refused:
            name, part = refused.refused
            return {"WrongKind": ("kind", at, part), "Nought": ("nought", at), "NoRoom": ("room", at)}[name], news
        at, gone = on, gone + 1


def model_moved(script, layings, room, most, when, kind=LaidModel):
    """The end and the news of a moved run, by models, and how many moves were done and refused."""
    moves = {"done": 0, "refused": 0}

    def ahead(model, gone):
        if not (when[gone] if gone < len(when) else False):
            return model
        following = layings[1:] + layings[:1]
        try:
            model = model_anew(model, following[moves["done"] % len(layings)], room)
        except Refused:
            moves["refused"] += 1
            return model
        moves["done"] += 1
        return model

    end, news = model_go(script, kind(layings[0], room), most, ahead)
    return end, news, moves


def part_by_chance(chance, part, rows):
    if part in "rqp":
        return chance.randrange(8)
    if part == "n":
        return 0 if chance.random() < 0.2 else number_by_chance(chance)
    if part == "k":
        return chance.choice([0, 1, 64, 126, 127])
    if part == "t":
        return chance.randrange(rows)
    return chance.choice(THREE if part == "o" else KINDS)


def row_by_chance(chance, names, rows):
    name = chance.choice(names)
    return (name,) + tuple(part_by_chance(chance, part, rows) for part in PARTS[name])


def goes(row, model):
    """Whether a row, gone in a plain model, is not refused for a wrong kind."""
    if row[0] in ("below", "kind", "same", "tell", "jump"):
        return row[0] != "below" or model.kind(row[1]) == model.kind(row[2]) == "number"
    try:
        getattr(model, row[0])(*row[1:])
    except Refused as refused:
        # Seldom by itself, so it may stand.
        return refused.refused[0] == "Nought"
    except TooFar:
        return False
    return True


def script_by_chance(seed, heavy=()):
    """A formed script: some numbers first, then rows of any word, those named in heavy more often.

    Those of even seeds are such that the rows, gone one behind another, are refused but seldom.
    """
    chance = random.Random(seed)
    model = Plain()
    rows = chance.choice([1, 2, 5, 12, 25, 40, 59, 60])
    script = [("number", r, part_by_chance(chance, "n", rows)) for r in range(8) if chance.random() < 0.8][:rows // 2]
    for row in script:
        goes(row, model)
    # Jumps and ends seldom, so that runs get somewhere.
    names = [name for name in PARTS if name not in ("jump", "end")] * 2 + ["jump", "tell", "tell", "tell"] + list(heavy)
    while len(script) < rows - 1:
        row = row_by_chance(chance, names, rows)
        if seed % 2 or chance.random() < 0.04 or goes(row, model):
            script.append(row)
    return script + [row_by_chance(chance, ["end", "jump"], rows)]


def runs_by_chance(first, count, heavy=()):
    """So many formed scripts whose numbers stay within bounds, each with its plain end and news."""
    seed = first
    while count:
        script = script_by_chance(seed, heavy)
        seed += 1
        try:
            end, news = model_go(script, Plain(), ALLOWED)
        except TooFar:
            continue
        count -= 1
        yield script, end, news
