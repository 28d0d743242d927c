"""Runs: a program worked out step by step, forth and back."""

from uselots.checks import check_most, check_program, check_way
from uselots.elders import elder_way, exchange
from uselots.errors import BadMany, Ended
from uselots.kinds import is_between
from uselots.machine import Machine
from uselots.steps import advance

MOST_STEPS = 100000


class Run:
    """The run of a program by a way, at first without a step.

    `next` is the PLACE of the next step, None behind the end.
    Of parts exchanged amid it there are (number of steps, line), in sequence.
    """

    def __init__(self, program, way):
        check_program(program)
        check_way(program, way)
        self._begun = (program, way)
        self._exchanged = ()
        self._program = program
        self._way = way
        self._machine = Machine(program, way)
        self.next = ("run", 1)

    @property
    def program(self):
        return self._program

    @property
    def way(self):
        return self._way

    @property
    def end(self):
        """The END, None as long as there are steps to come."""
        return self._machine.outcome

    @property
    def places(self):
        """The PLACES of all steps done."""
        return tuple([node.place for node in self._machine.nodes])

    @property
    def unders(self):
        """For each step the number of the one under which it stands, -1 for the run's E."""
        return tuple(self._machine.under_of)

    @property
    def begins(self):
        """For each step the number of the one that began it, -1 for the first one."""
        return tuple(self._machine.begun_by)

    def __len__(self):
        return len(self._machine.nodes)

    def __eq__(self, other):
        if not isinstance(other, Run) or self._begun != other._begun or self._exchanged != other._exchanged:
            return False
        return len(self._machine.nodes) == len(other._machine.nodes)

    def step(self):
        """Does the next step, and returns its PLACE."""
        if self.next is None:
            raise Ended(self._machine.outcome)
        advance(self._machine)
        self._point()
        return self._machine.nodes[-1].place

    def go(self, most):
        """Does as many steps as there are, at most so many, and returns how many it did."""
        check_most(most, MOST_STEPS)
        done = 0
        while done < most and self._machine.pending is not None:
            advance(self._machine)
            done += 1
        self._point()
        return done

    def back(self, many):
        """Takes the last so many steps back, no farther than to where a part was exchanged."""
        if not is_between(many, 1, len(self._machine.nodes) - self.floor()):
            raise BadMany(many)
        self._machine.rewind(many)
        self._point()

    def sight(self):
        """For each name that is bound where the next step is, the innermost first, what it stands for."""
        machine = self._machine
        if machine.pending is None:
            return ()
        room = machine.pending[1]
        seen = {}
        while room >= 0:
            name = machine.fun_of(room).named
            if name not in seen:
                seen[name] = state(machine, (room, 0))
            room = machine.room_around(room)
        return tuple([(name, seen[name]) for name in seen])

    def pile(self):
        """The numbers of the steps that wait for a value, the newest first."""
        machine = self._machine
        waiting = [] if machine.pending is None else [machine.pending[4]]
        while waiting and waiting[-1] >= 0:
            waiting.append(machine.behind[waiting[-1]])
        return tuple(waiting[:-1])

    def copy(self):
        """An equal run that goes on by itself."""
        program, way = self._begun
        twin = Run(program, way)
        twin._exchanged = self._exchanged
        twin._program = self._program
        twin._way = self._way
        twin._machine = self._machine.copied(program, way)
        twin.next = self.next
        return twin

    def floor(self):
        """How many steps were done when the last part was exchanged; 0 if none was."""
        return self._exchanged[-1][0] if self._exchanged else 0

    def renew(self, program, name):
        """Goes on with the line that part name has in program, which is else the run's own: Ended."""
        if self.next is None:
            raise Ended(self._machine.outcome)
        self._exchanged = self._exchanged + ((len(self._machine.nodes), program.line(name)),)
        self._program = program
        exchange(self._machine, program, self._way, name)
        self._way = elder_way(self._way, name)
        self._point()

    def _point(self):
        """Sets next to what the machine has due."""
        pending = self._machine.pending
        self.next = None if pending is None else pending[0].place


def state(machine, thing):
    """What a look at a bound thing would find: its value, or the PLACE that would be worked out."""
    if thing in machine.memory:
        return machine.tell(machine.memory[thing])
    return ("waits", machine.bound_node(thing).place)


def ended(program, way, most):
    """The Run of program by way behind at most so many steps."""
    run = Run(program, way)
    run.go(most)
    return run
