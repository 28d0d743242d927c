"""A second bench: it keeps its deeds alone, and does them all anew, by functions, whenever it is asked."""

import random

from samples import WORDS, Maker, without
from uselots.asking import asked, is_plain
from uselots.books import Book, whole
from uselots.errors import (Amid, BadExpression, BadMany, BadPiece, BadPlace, BadProgram, BadWay, Endless, Lacks, NotEnded,
                            NotWatched, Ring, StuckAt, TooMany, UseError, Watched, Wide)
from uselots.exchanges import exchanged, exchanged_run
from uselots.pieces import pieces
from uselots.runs import Run
from uselots.texts import Program, joined_text, parts_text


class Slow:
    """All that a bench tells behind these deeds, tuples of their word and arguments."""

    def __init__(self, text, way, deeds):
        self.program = Program(text)
        self.run = Run(self.program, way)
        self.way, self.watched, self.amid, self.floor = way, [], False, 0
        self.beside = {}
        self.book = Book(parts_text(self.program), without(way, "run"))
        for deed in deeds:
            self.do(*deed)

    def do(self, word, *told):
        """What the deed returns, or what it raises."""
        return getattr(self, "do_" + word)(*told)

    def do_go(self, most):
        return self.run.go(most)

    def do_back(self, many):
        if type(many) is not int or not 1 <= many <= len(self.run) - self.floor:
            raise BadMany(many)
        self.run.back(many)

    def do_line(self, name, line):
        self.run = exchanged_run(self.run, name, line)
        self.floor = len(self.run)
        self.program = exchanged(self.program, name, line)
        self.way = without(self.way, name)
        book, self.book = self.book, Book(parts_text(self.program), without(self.way, "run"))
        for piece in book.pieces:
            if not self.leads(piece[0], name, set()):
                self.book.put(piece)
        self.watched = [place for place in self.watched if place[0] != name]
        self.amid = True

    def leads(self, name, other, seen):
        if name == other:
            return True
        seen.add(name)
        named = set(self.program.line(name).split(" ")[4:]) & set(self.program.parts)
        return any(self.leads(one, other, seen) for one in named if one not in seen)

    def begin(self, program, way):
        self.run = Run(program, way)
        self.program, self.way, self.amid, self.floor = program, way, False, 0

    def do_expression(self, text):
        try:
            program = joined_text(parts_text(self.program), text)
        except BadProgram:
            raise BadExpression(text)
        self.begin(program, without(self.way, "run"))
        self.watched = [place for place in self.watched if place[0] != "run"]

    def do_bind(self, way):
        try:
            self.begin(self.program, way)
        except BadWay:
            raise BadWay(way)
        self.book = Book(parts_text(self.program), without(way, "run"))
        self.beside = {}

    def do_learn(self):
        if self.amid:
            raise Amid(None)
        if self.run.end is None:
            raise NotEnded(len(self.run))
        if self.run.end[0] == "stuck":
            raise StuckAt(self.run.end[1])
        if len(self.run) > 20000:
            raise Wide(20000)
        own, *others = pieces(self.program, self.way, len(self.run))
        new = sum([self.book.put(piece) for piece in others])
        self.beside = {**self.beside, self.program.line("run")[4:]: own}
        return new

    def do_watch(self, place):
        if not self.is_place(place):
            raise BadPlace(place)
        if place in self.watched:
            raise Watched(place)
        self.watched = self.watched + [place]

    def do_unwatch(self, place):
        if not self.is_place(place):
            raise BadPlace(place)
        if place not in self.watched:
            raise NotWatched(place)
        self.watched = [other for other in self.watched if other != place]

    def is_place(self, place):
        return type(place) is tuple and [type(one) for one in place] == [str, int] and place in self.program.places

    def known(self):
        if self.amid:
            return None
        if self.run.end is not None and self.run.end[0] != "stuck":
            return len(self.run)
        try:
            if is_plain(self.program):
                return asked(self.program, self.way, 2000).steps
        except (Endless, TooMany):
            pass
        expression = self.program.line("run")[4:]
        if expression in self.beside:
            try:
                return whole(self.book, expression, self.beside[expression])[1]
            except (BadPiece, Lacks, Ring):
                pass
        return None

    def signs(self):
        return tuple((place, self.run.places.count(place)) for place in self.program.places if place in self.watched)


def told_of_run(run):
    return (run.program.text, run.way, len(run), run.end, run.next, run.places, run.unders, run.begins, run.sight(), run.pile())


def told_of_slow(slow, deeds):
    """All that a bench with these deeds tells."""
    return (slow.program.text, slow.way, tuple(slow.watched), deeds, len(slow.run), told_of_run(slow.run), slow.book.parts,
            slow.book.way, slow.book.pieces, slow.run.next, slow.signs(), slow.known())


def told_of(bench):
    """The same of a bench."""
    book = bench.book_now()
    return (bench.program.text, bench.way, bench.watched, bench.deeds, len(bench), told_of_run(bench.run_now()), book.parts,
            book.way, book.pieces, bench.next_place(), bench.signs(), bench.known())


def line_of(deed):
    """The line of a deed in a journal."""
    word, *told = deed
    if word in ("go", "back"):
        return f"{word} {told[0]}"
    if word == "line":
        return f"line {told[0]} {told[1]}"
    if word == "expression":
        return f"expression {told[0]}"
    if word == "learn":
        return "learn"
    if word == "bind":
        return f"bind {text_of_way(told[0])}"
    return f"{word} {told[0][0]} {told[0][1]}"


def text_of_way(way):
    if type(way) is str:
        return way
    return way[0] + "".join(f" {name} {number} {word}" for (name, number), word in way[1])


class Hand:
    """Deeds by lot at the bench of a program that samples.Maker made with this number, most of which can be done."""

    def __init__(self, seed, program):
        self.lot = random.Random(seed)
        self.maker = Maker(seed)
        self.maker.text()
        self.maker.lot = self.lot
        self.expressions = [program.line("run")[4:]]

    def deed(self, bench):
        word = self.lot.choice(("go", "go", "go", "go", "back", "line", "line", "expression", "expression", "bind", "learn",
                                "learn", "learn", "watch", "watch", "unwatch"))
        return (word, *getattr(self, "for_" + word)(bench))

    def for_go(self, bench):
        return [self.lot.choice((1, 2, 5, 20, 300, 300, 0))]

    def for_back(self, bench):
        return [self.lot.choice((1, 1, 2, 5, max(len(bench), 1), len(bench) + 1, 0))]

    def for_line(self, bench):
        if not bench.program.parts or self.lot.random() < 0.1:
            return ["nobody", "part nobody fun x x"]
        name = self.lot.choice(bench.program.parts)
        words = bench.program.line(name).split(" ")
        lines = [words, words[:4] + ["let", "q", "0"] + words[4:], words + ["x"]]
        line = " ".join(self.lot.choice(lines))
        if name in self.maker.parts and self.lot.random() < 0.5:
            _, given, come = self.maker.parts[name]
            line = f"part {name} fun y " + self.maker.e(come, {"y": given}, 3)
        return [name, line]

    def for_expression(self, bench):
        if self.lot.random() < 0.4:
            return [self.lot.choice(self.expressions)]
        text = self.maker.e(self.maker.kind(1), {}, 4)
        self.expressions.append(text)
        return [self.lot.choice((text, text, text, text, "plus 1"))]

    def for_bind(self, bench):
        word = self.lot.choice(WORDS)
        others = [other for other in WORDS if other != word]
        changes = tuple((place, self.lot.choice(others)) for place in sorted(bench.program.bindings) if self.lot.random() < 0.4)
        return [(word, changes) if changes and self.lot.random() < 0.7 else self.lot.choice((word, word, word, "wish"))]

    def for_learn(self, bench):
        return []

    def for_watch(self, bench):
        return [self.lot.choice(bench.program.places + (("run", 0),))]

    def for_unwatch(self, bench):
        return [self.lot.choice(bench.watched + (bench.program.places[0],))]


def do(bench, deed):
    """What a deed at a bench returns; the error's class and value if it is refused."""
    word, *told = deed
    try:
        return (getattr(bench, word)(*told),)
    except UseError as error:
        return (type(error), error.value)


def do_slowly(slow, deed):
    """The same at the second bench."""
    try:
        return (slow.do(*deed),)
    except UseError as error:
        return (type(error), error.value)
