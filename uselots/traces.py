"""Runs that ended with a value, looked at as a whole."""

from uselots.checks import check_most, check_program, check_way
from uselots.errors import NotEnded, StuckAt
from uselots.machine import Machine
from uselots.steps import advance

# Of all functions that tell of whole runs, but those of charges.
MOST = 20000
# What a step of these binds: the NAME's thing, or both halves.
HALVES = {"call": (0,), "let": (0,), "pair": (1, 2)}


def gone(program, way, most):
    """The machine of program by way behind at most so many steps."""
    machine = Machine(program, way)
    while machine.pending is not None and len(machine.nodes) < most:
        advance(machine)
    return machine


def has_value(machine):
    """Whether a machine is behind its end, and this is a value."""
    return machine.outcome is not None and machine.outcome[0] != "stuck"


def finished(program, way, most):
    """The machine of program by way behind its end, a value: NotEnded, StuckAt."""
    machine = gone(program, way, most)
    if machine.outcome is None:
        raise NotEnded(most)
    kind, what = machine.outcome
    if kind == "stuck":
        raise StuckAt(what)
    return machine


def checked(program, way, most):
    """The same for values of any kind: NoProgram, BadWay, BadMost ahead of it."""
    check_program(program)
    check_way(program, way)
    check_most(most, MOST)
    return finished(program, way, most)


def times_of(program, nodes):
    """(PLACE, times) for the PLACES of nodes, in sequence."""
    counts = {}
    for node in nodes:
        counts[node.place] = counts.get(node.place, 0) + 1
    return tuple([(place, counts[place]) for place in program.places if place in counts])


class Trace:
    """What the steps of a finished machine gave, and what they looked at.

    `worths` has the value of each step. `chains` are lists of steps that have one value,
    as each but the last of them left its own to the next one, in the sequence in which
    these values came. `things` has, by the number of a step that looks, the bound thing;
    `lookers`, by a bound thing that is looked at, the steps that do, ascending.
    """

    def __init__(self, machine):
        self.machine = machine
        self.worths = [None] * len(machine.nodes)
        self.chains = []
        self.things = {}
        self.lookers = {}
        self._chain()
        self._look()

    def _chain(self):
        machine = self.machine
        chains = []
        for step, began in enumerate(machine.begun_by):
            # The chain goes on if those two have the same step waiting for them.
            if began >= 0 and machine.behind[step] == machine.behind[began]:
                chains.append(chains[began])
                chains[began].append(step)
            else:
                chains.append([step])
        for giving, value in machine.came():
            self.chains.append(chains[giving])
            for step in chains[giving]:
                self.worths[step] = value

    def _look(self):
        for step, node in enumerate(self.machine.nodes):
            thing = self._thing(step, node)
            if thing is not None:
                self.things[step] = thing
                self.lookers.setdefault(thing, []).append(step)

    def _thing(self, step, node):
        """The bound thing at which a step looks, None if at none."""
        if node.kind == "name":
            return self.machine.meant(node.sign, self.machine.rooms[step])
        if node.kind not in ("first", "second"):
            return None
        # The step behind it is that of its E, whose value is the pair.
        _, made = self.worths[step + 1]
        return (made, 1 if node.kind == "first" else 2)

    def worked_out(self, step):
        """The bound thing that a step works out for the one that began it, and waits; None if it is none."""
        began = self.machine.begun_by[step]
        kind = self.machine.nodes[began].kind
        ahead = step == began + 1
        if kind == "let":
            return (began, 0)
        if kind == "pair":
            return (began, 1 if ahead else 2)
        if kind == "name":
            return self.things[began]
        if ahead or kind not in ("call", "first", "second"):
            return None
        return (began, 0) if kind == "call" else self.things[began]

    def bound_things(self):
        """All bound things, by steps, then by halves."""
        things = []
        for step, node in enumerate(self.machine.nodes):
            things.extend([(step, half) for half in HALVES.get(node.kind, ())])
        return things

    def looks_at(self, thing, moment):
        """The steps from moment on that look at a bound thing."""
        return [step for step in self.lookers.get(thing, ()) if step >= moment]
