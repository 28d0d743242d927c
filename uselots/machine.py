"""The machine that a run goes on with: what each step began, and what it left behind.

All that a run makes is told by the number of the step that made it: a function
and a pair by the step whose value they are, a bound thing by (step, half), half
being 0 of a call and a let, 1 and 2 of a pair, a room by the call or the let
that bound its innermost name, the empty one by -1.
Values are ("number", integer), ("function", step), ("pair", step).
"""

from uselots.binding import binding_words
from uselots.kinds import is_tuple

EMPTY = -1
NOBODY = -1


class Machine:
    """A program at work: its steps so far, and what is due next.

    `words` has how each binding place binds, `funs` the fun of each part's line; both also
    for lines that were exchanged amid the run, by their elder names.
    Of each step there are its node, the room in which it is worked out, the steps under
    which it stands, that began it, and that waits for its value (`behind`, -1 if
    the run does), and how long `log` was when it began (`marks`).
    `pending` is the same of the next step, None if there is none; `outcome` is
    the END behind the last step, otherwise None.
    `memory` has, by a bound thing, the value that looks at it give from then on,
    and, by the number of a step, what this step keeps in mind: a call the step that
    made its function, plus and less their first number, a look the thing that it
    works out, a part's NAME the node of the part's fun; and, by ("came", step), the
    value that came of a step itself, not of one that it left its value to. A step changes
    nothing in it, so steps are taken back by forgetting what came since, in `log`.
    """

    def __init__(self, program, way):
        self.words = binding_words(program, way)
        self.funs = {name: program.nodes[(name, 2)] for name in program.parts}
        self.nodes = []
        self.rooms = []
        self.under_of = []
        self.begun_by = []
        self.behind = []
        self.marks = []
        self.memory = {}
        self.log = []
        self.outcome = None
        self.pending = (program.nodes[("run", 1)], EMPTY, NOBODY, NOBODY, NOBODY)

    def copied(self, program, way):
        """A machine of the same program and way that stands as this one, by itself."""
        twin = Machine(program, way)
        twin.words = {place: self.words[place] for place in self.words}
        twin.funs = {name: self.funs[name] for name in self.funs}
        twin.nodes = list(self.nodes)
        twin.rooms = list(self.rooms)
        twin.under_of = list(self.under_of)
        twin.begun_by = list(self.begun_by)
        twin.behind = list(self.behind)
        twin.marks = list(self.marks)
        twin.memory = {key: self.memory[key] for key in self.memory}
        twin.log = list(self.log)
        twin.outcome = self.outcome
        twin.pending = self.pending
        return twin

    def enter(self):
        """Takes up the step that is due, and returns its number."""
        node, room, under, began, behind = self.pending
        self.nodes.append(node)
        self.rooms.append(room)
        self.under_of.append(under)
        self.begun_by.append(began)
        self.behind.append(behind)
        self.marks.append(len(self.log))
        self.pending = None
        return len(self.nodes) - 1

    def rewind(self, many):
        """Takes the last so many steps back."""
        at = len(self.nodes) - many
        self.pending = (self.nodes[at], self.rooms[at], self.under_of[at], self.begun_by[at], self.behind[at])
        self.outcome = None
        while len(self.log) > self.marks[at]:
            key = self.log.pop()
            del self.memory[key]
        del self.nodes[at:]
        del self.rooms[at:]
        del self.under_of[at:]
        del self.begun_by[at:]
        del self.behind[at:]
        del self.marks[at:]

    def keep(self, key, what):
        self.memory[key] = what
        self.log.append(key)

    def keep_value(self, step, value):
        """Keeps in mind that value came of step."""
        self.keep(("came", step), value)

    def came(self):
        """(step, value) for each value that came of a step itself, in sequence."""
        return [(key[1], self.memory[key]) for key in self.log if is_tuple(key) and key[0] == "came"]

    def work_out(self, step, at):
        """The E within step's with number at is due, and step waits for its value."""
        self.pending = (self.nodes[step].within[at], self.rooms[step], step, step, step)

    def go_over(self, step, at):
        """The E within step's with number at is due, and its value is step's."""
        self.pending = (self.nodes[step].within[at], self.rooms[step], step, step, self.behind[step])

    def go_into(self, step):
        """What is due is F of step's let, or the body of what step's call calls; its value is step's."""
        made = step if self.nodes[step].kind == "let" else self.memory[step]
        body = self.fun_of(step).within[-1]
        self.pending = (body, step, made, step, self.behind[step])

    def look(self, step, thing):
        """The value that step's look at a bound thing gives; None if this has to be worked out, which is due then."""
        if thing in self.memory:
            return self.memory[thing]
        made, _ = thing
        behind = self.behind[step]
        if self.word(made) == "need":
            self.keep(step, thing)
            behind = step
        self.pending = (self.bound_node(thing), self.rooms[made], made, step, behind)
        return None

    def stick(self, step):
        """The run is stuck at step."""
        self.outcome = ("stuck", self.nodes[step].place)

    def word(self, step):
        """How step binds what it binds."""
        return self.words[self.nodes[step].place]

    def bound_node(self, thing):
        """The node of the E that a bound thing is."""
        made, half = thing
        node = self.nodes[made]
        if node.kind == "pair":
            return node.within[half - 1]
        return node.within[1] if node.kind == "call" else node.within[0]

    def fun_of(self, step):
        """The node that binds what the call or let of step binds: the fun that is called, the let."""
        if self.nodes[step].kind == "let":
            return self.nodes[step]
        return self.made_of(self.memory[step])

    def made_of(self, step):
        """The node at which the value stands that step made: a pair, or a fun, for a part's NAME the part's."""
        node = self.nodes[step]
        return self.memory[step] if node.kind == "part" else node

    def room_around(self, room):
        """The room in which the innermost name of room is not bound yet."""
        if self.nodes[room].kind == "let":
            return self.rooms[room]
        made = self.memory[room]
        return EMPTY if self.nodes[made].kind == "part" else self.rooms[made]

    def meant(self, name, room):
        """The bound thing that name stands for in room."""
        while self.fun_of(room).named != name:
            room = self.room_around(room)
        return (room, 0)

    def tell(self, value):
        """A value as an END tells it."""
        kind, what = value
        return value if kind == "number" else (kind, self.made_of(what).place)
