"""Programs as texts: parts, one line that is run, and the PLACES in them."""

from uselots.errors import BadPlace, BadProgram, NoPart, NoProgram
from uselots.kinds import is_integer, is_row, is_text
from uselots.reading import read_program

BINDING_WORDS = ("call", "let", "pair")


class Program:
    """The program with this text: BadProgram(number of the line) if it is none's."""

    def __init__(self, text):
        lines = read_program(text)
        self._text = text
        self._lines = {line.name: line.told for line in lines}
        self._parts = tuple([line.name for line in lines[:-1]])
        self.nodes = {node.place: node for line in lines for node in line.nodes}
        self._places = tuple(list(self.nodes))
        self._bindings = tuple([place for place in self.nodes if self.nodes[place].kind in BINDING_WORDS])

    @property
    def text(self):
        return self._text

    @property
    def parts(self):
        """The names of the parts, in sequence."""
        return self._parts

    @property
    def places(self):
        """All PLACES, by lines in sequence, then by numbers."""
        return self._places

    @property
    def bindings(self):
        """Those PLACES at which something is bound: of call, let and pair."""
        return self._bindings

    def __eq__(self, other):
        return isinstance(other, Program) and self._text == other._text

    def line(self, name):
        """The line of this part, or of "run"."""
        if not is_text(name) or name not in self._lines:
            raise NoPart(name)
        return self._lines[name]

    def node(self, place):
        """The node that stands at place: BadPlace."""
        if not is_place(self, place):
            raise BadPlace(place)
        return self.nodes[place]

    def word(self, place):
        """The word that stands at place."""
        return self.node(place).sign

    def inner(self, place):
        """The PLACES of the Es straight within the one at place."""
        return tuple([node.place for node in self.node(place).within])

    def around(self, place):
        """The PLACE of the E that the one at place stands straight within, None for that of a line."""
        outer = self.node(place).outer
        return None if outer is None else outer.place

    def bound(self, place):
        """The PLACE of the fun or let that binds the NAME at place, None if none does."""
        binder = self.node(place).binder
        return None if binder is None else binder.place


def is_place(program, value):
    """Whether any value is a PLACE of a Program."""
    if not is_row(value, 2):
        return False
    name, number = value
    # As a key True would count as 1, so the kinds are tested first.
    return is_text(name) and is_integer(number) and value in program.nodes


def parts_text(program):
    """The lines of the program's parts, joined by line feeds."""
    if not isinstance(program, Program):
        raise NoProgram(program)
    return "\n".join([program.line(name) for name in program.parts])


def joined_text(parts, expression):
    """The Program of the lines of parts, and of this expression as what is run."""
    if not is_text(parts) or not is_text(expression):
        raise BadProgram(0)
    line = f"run {expression}"
    return Program(f"{parts}\n{line}" if parts else line)
