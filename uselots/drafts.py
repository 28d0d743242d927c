"""Pieces of plain lines, written down without a run."""

from uselots.calls import call_cut
from uselots.entries import called_entry
from uselots.errors import Wide
from uselots.tidying import tidy_table
from uselots.usage import Store

WIDEST_PIECE = 2000


class Draft:
    """The rows of a plain line in line sequence, as a Tally tells them, with uses of a Store."""

    def __init__(self, tally):
        self.tally = tally
        self.scene = tally.scene
        self.store = Store()
        self.rows = []

    def number(self, worth):
        """The use of a number."""
        return self.store.put(("number", worth))

    def looks_as(self, worth, times):
        """The LOOKS that look so often at this number."""
        return ((self.number(worth), times),) if times > 0 else ()

    def add_row(self, node, use, under):
        """Puts a row behind the others, and returns its number."""
        self.rows.append((node.place, use, under))
        return len(self.rows) - 1

    def add_head(self, funs, looks):
        """Puts the rows of a part's funs but the outermost one, and of its own E, with these looks at its arguments."""
        under = -1
        for fun, use in zip(funs[1:], self.uses_of(funs, looks)):
            under = self.add_row(fun, use, under)
        self.add_node(self.scene.root, under)

    def uses_of(self, funs, looks):
        """The uses of all funs but the outermost one, as what each of these is called for; the outer ones first."""
        use = self.number(self.scene.worths[self.scene.root.place])
        uses = []
        for fun, times in reversed(list(zip(funs[1:], looks[1:]))):
            use = self.store.put(called_entry(self.looks_as(self.scene.given[fun.place], times), use))
            uses.append(use)
        return list(reversed(uses))

    def add_node(self, node, under):
        """Puts the rows of one working out of a node."""
        if node.kind == "call":
            found = self.scene.plain.wholes[node.place]
            self.add_call(found, 0, self.number(self.scene.worths[node.place]), under)
            return
        row = self.add_row(node, self.number(self.scene.worths[node.place]), under)
        for inner in self.scene.wanted(node):
            for _ in range(self.tally.copies.get(inner.place, 1)):
                self.add_node(inner, row)

    def add_call(self, found, at, use, under):
        """Puts the rows of a whole call from the one with number at of its calls on, inwards."""
        if at == len(found.calls):
            self.add_row(found.head, use, under)
            return
        row = self.add_row(found.calls[at], use, under)
        # The outermost call binds the last argument.
        inner = found.given[len(found.calls) - 1 - at]
        answer = self.tally.answers[self.scene.ask_at(found.calls[0])]
        looks = self.looks_as(self.scene.worths[inner.place], answer.looks[len(found.calls) - 1 - at])
        self.add_call(found, at + 1, self.store.put(called_entry(looks, use)), row)
        for _ in range(self.tally.copies[inner.place]):
            self.add_node(inner, row)


def plain_piece(name, funs, answer):
    """The PIECE of an Answer of the line of this name, whose funs these are: Wide."""
    tally = answer.tally
    if tally.width + max(len(funs) - 1, 0) > WIDEST_PIECE:
        raise Wide(WIDEST_PIECE)
    draft = Draft(tally)
    draft.add_head(funs, answer.looks)
    looks = ()
    if funs:
        looks = draft.looks_as(tally.scene.given[funs[0].place], answer.looks[0])
    uses = [use for _, use, _ in draft.rows]
    table, numbers = tidy_table(tuple(draft.store.entries), tuple(uses + [use for use, _ in looks]))
    rows = [(place, use, under) for (place, _, under), use in zip(draft.rows, numbers)]
    told = tuple([(numbers[-1], times) for _, times in looks])
    return (name, call_cut(table, told, numbers[0]), table, tuple(rows))
