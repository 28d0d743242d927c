"""Asking: what a plain program takes, each call worked out once for the same numbers, however long it would run."""

from uselots.binding import binding_words, way_without
from uselots.books import Book
from uselots.checks import check_most, check_program, check_way
from uselots.drafts import plain_piece
from uselots.errors import BadMany, BadWay, NoAsk, NoPart, NotPlain
from uselots.kinds import is_between, is_integer, is_text, is_tuple
from uselots.plain import plain_of
from uselots.spots import spot
from uselots.texts import parts_text
from uselots.workers import RUN, Worker

MOST_ASKS = 2000


def is_plain(program):
    """Whether a program is plain."""
    check_program(program)
    return plain_of(program) is not None


def arity(program, name):
    """How many arguments a part of a plain program takes."""
    plain = checked_plain(program)
    if not is_text(name) or name not in plain.heads:
        raise NoPart(name)
    return len(plain.heads[name])


def checked_plain(program):
    """The Plain of a program: NoProgram, NotPlain."""
    check_program(program)
    plain = plain_of(program)
    if plain is None:
        raise NotPlain(program)
    return plain


def asked(program, way, most):
    """The Asked of a plain program, with at most so many unlike asks: Endless, TooMany."""
    plain = checked_plain(program)
    check_way(program, way)
    check_most(most, MOST_ASKS)
    worker = Worker(plain, binding_words(program, way), most)
    worker.answer(RUN)
    return Asked(program, way, most, worker)


class Asked:
    """All asks of a plain program, worked out."""

    def __init__(self, program, way, most, worker):
        self._program = program
        self._way = way
        self._most = most
        self._worker = worker

    @property
    def end(self):
        """How the run ends."""
        return ("number", self._worker.answers[RUN].result)

    @property
    def steps(self):
        """How many steps the run takes."""
        return self._worker.answers[RUN].cost

    @property
    def asks(self):
        """(name, numbers, result, steps, looks) of all asks, ascending."""
        answers = self._worker.answers
        told = [(key, answers[key]) for key in answers if key != RUN]
        return tuple(sorted([(*key, its.result, its.cost, its.looks) for key, its in told]))

    def __eq__(self, other):
        if not isinstance(other, Asked) or self._program != other._program:
            return False
        return self._way == other._way and self._most == other._most

    def ask(self, name, numbers):
        """(result, steps, looks) of one of asks."""
        answers = self._worker.answers
        if not is_ask(name, numbers) or (name, numbers) not in answers:
            raise NoAsk((name, numbers))
        answer = answers[(name, numbers)]
        return answer.result, answer.cost, answer.looks

    def run_piece(self):
        """The PIECE of the run's line: Wide."""
        return self._piece(RUN)

    def book(self):
        """The Book of the PIECES of all asks: Wide."""
        own = Book(parts_text(self._program), way_without(self._way, "run"))
        own.keep_all([self._piece(key) for key in self._worker.answers if key != RUN])
        return own

    def at(self, number):
        """(PLACE, asks) of the step of the run by value with this number: where it is, and the asks open there."""
        if self._way != "value":
            raise BadWay(self._way)
        if not is_between(number, 0, self.steps - 1):
            raise BadMany(number)
        return spot(self._worker.plain, self._worker.answers, number)

    def _piece(self, key):
        name, _ = key
        return plain_piece(name, self._worker.plain.heads.get(name, []), self._worker.answers[key])


def is_ask(name, numbers):
    """Whether a name and numbers have the form of an ask of a part."""
    if not is_text(name) or name == "run" or not is_tuple(numbers):
        return False
    return all([is_integer(number) for number in numbers])
