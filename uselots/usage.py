"""What each step's value was used for, told from a run's end back to its beginning."""

from uselots.entries import called_entry, gathered, half_entry, held_entry, total, width
from uselots.errors import Wide
from uselots.tidying import tidy_table
from uselots.traces import Trace

WIDEST = 100000


class Store:
    """Entries, no two of them alike, each behind those that it names: Wide if they are too many pairs."""

    def __init__(self):
        self.entries = []
        self.numbers = {}
        self.wide = 0

    def put(self, entry):
        """The number of an entry, which is put there if it is not."""
        if entry not in self.numbers:
            self.wide = self.wide + width(entry)
            if self.wide > WIDEST:
                raise Wide(WIDEST)
            self.numbers[entry] = len(self.entries)
            self.entries.append(entry)
        return self.numbers[entry]


class Usage:
    """The uses of the steps of a Trace, as numbers of entries of a Store."""

    def __init__(self, trace):
        self.trace = trace
        self.store = Store()
        self.uses = [0] * len(trace.worths)
        # When a value comes, all that is made of it is still to come: so the last one is told first.
        for chain in reversed(trace.chains):
            for step in chain:
                self.uses[step] = self._use(step)

    def _use(self, step):
        trace = self.trace
        began = trace.machine.begun_by[step]
        if began < 0:
            return self.store.put(held_entry(trace.worths[step]))
        if trace.machine.behind[step] != began:
            return self.uses[began]
        thing = trace.worked_out(step)
        if thing is not None:
            return self._sum(step, thing)
        kind = trace.machine.nodes[began].kind
        if kind == "call":
            return self.store.put(called_entry(self._looks((began, 0)), self.uses[began]))
        if kind in ("first", "second"):
            return self.store.put(half_entry(kind, self.uses[began]))
        return self.store.put(trace.worths[step])

    def _looks(self, thing):
        """The LOOKS that are made of a bound thing."""
        return gathered([(self.uses[step], 1) for step in self.trace.looks_at(thing, 0)])

    def _sum(self, step, thing):
        """What is made in all of a bound thing that step works out."""
        looks = self._looks(thing)
        if not looks:
            return self.store.put(held_entry(self.trace.worths[step]))
        if len(looks) == 1 and looks[0][1] == 1:
            return looks[0][0]
        entries = self.store.entries
        return self.store.put(total([(entries[use], count) for use, count in looks]))

    def tidy(self):
        """The tidy TABLE of all uses, and the tuple of their numbers in it, step by step."""
        return tidy_table(tuple(self.store.entries), tuple(self.uses))


def written(machine):
    """The paper of a finished machine: Wide."""
    table, uses = Usage(Trace(machine)).tidy()
    nodes = machine.nodes
    return table, tuple([(node.place, use, under) for node, use, under in zip(nodes, uses, machine.under_of)])
