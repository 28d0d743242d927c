"""What many functions ask of their arguments, with the errors that they raise for it."""

from uselots.binding import is_way
from uselots.errors import BadMost, BadWay, NoProgram
from uselots.kinds import is_between
from uselots.texts import Program


def check_program(program):
    if not isinstance(program, Program):
        raise NoProgram(program)


def check_way(program, way):
    """BadWay unless way is one of this Program."""
    if not is_way(program, way):
        raise BadWay(way)


def check_most(most, bound):
    """BadMost unless most is an integer from 1 to bound."""
    if not is_between(most, 1, bound):
        raise BadMost(most)
