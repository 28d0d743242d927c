"""Rows looked at as a whole: which stand under which, and to which bodies those for names belong."""

from uselots.binding import binding_words
from uselots.entries import gathered, is_use
from uselots.kinds import is_between, is_row, is_tuple
from uselots.texts import is_place


class Sheet:
    """Rows with the uses of a TABLE no entries of which are alike.

    Of each row there are its node, its use, the row under which it stands, and those that
    stand under it (`children`). `bodies` has, by a row for a bound name, the row for a body
    to which it belongs, if there is one; `looks`, by a row for a body, the LOOKS that it
    makes of the name bound there, if there are any. `whole` tells whether rows for parts'
    names have rows under them, as in papers, or none, as in pieces.
    """

    def __init__(self, program, way, table, rows, whole):
        self.words = binding_words(program, way)
        self.funs = {name: program.nodes[(name, 2)] for name in program.parts}
        self.table = table
        self.whole = whole
        self.nodes = [program.nodes[place] for place, _, _ in rows]
        self.uses = [use for _, use, _ in rows]
        self.under_of = [under for _, _, under in rows]
        self.children = [[] for _ in rows]
        for row, under in enumerate(self.under_of):
            if under >= 0:
                self.children[under].append(row)
        self.bodies = {}
        self.looks = {}
        self._belong()

    def _belong(self):
        counted = {}
        for row, node in enumerate(self.nodes):
            body = self._body(row) if node.kind == "name" else None
            if body is not None:
                self.bodies[row] = body
                counted.setdefault(body, []).append((self.uses[row], 1))
        for body in counted:
            self.looks[body] = gathered(counted[body])

    def _body(self, row):
        """The row for a body to which a row for a bound name belongs; None if it belongs to none."""
        body = self.nodes[row].binder.within[-1]
        above = row
        while above >= 0 and self.nodes[above].kind != "part":
            if self.nodes[above] == body:
                return above
            above = self.under_of[above]
        return None

    def entry(self, row):
        """What the use of a row tells."""
        return self.table[self.uses[row]]

    def looks_of(self, row):
        """The LOOKS that a row makes of the name bound there; none if it is for no body."""
        return self.looks.get(row, ())

    def inner(self, row):
        """The nodes for which rows may stand under a row."""
        node = self.nodes[row]
        if node.kind != "part":
            return node.within
        return self.funs[node.sign].within if self.whole else []


def are_rows(program, many, value):
    """Whether any value are rows of PLACES of a Program, with uses of a TABLE of so many entries.

    One row, the first one, has -1 for its under, all others have rows ahead of them.
    """
    if not is_tuple(value) or not value:
        return False
    return all([is_row_at(program, many, row, number) for number, row in enumerate(value)])


def is_row_at(program, many, value, number):
    """Whether any value can be the row with this number."""
    if not is_row(value, 3):
        return False
    place, use, under = value
    if not is_place(program, place) or not is_use(use, many):
        return False
    # The first row has none ahead of it: so it is the one with -1.
    return is_between(under, 0, number - 1) if number > 0 else is_between(under, -1, -1)
