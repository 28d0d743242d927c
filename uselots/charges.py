"""Charges: the steps of a run as a tree by what began them, each charged to whatever brought it about."""

from uselots.checks import check_most, check_program, check_way
from uselots.errors import BadMany
from uselots.kinds import is_between
from uselots.traces import finished

MOST = 100000


def charged(program, way, most):
    """The machine of program by way behind its end: NoProgram, BadWay, BadMost, NotEnded, StuckAt."""
    check_program(program)
    check_way(program, way)
    check_most(most, MOST)
    return finished(program, way, most)


def begun(program, way, most):
    """For each step how many steps stand at it or beneath it."""
    return tuple(sizes_of(charged(program, way, most)))


def sizes_of(machine):
    sizes = [1] * len(machine.nodes)
    for step in reversed(range(1, len(sizes))):
        began = machine.begun_by[step]
        sizes[began] = sizes[began] + sizes[step]
    return sizes


def path(program, way, most, number):
    """The steps from 0 down to the one with this number, each of which began the next one."""
    machine = charged(program, way, most)
    if not is_between(number, 0, len(machine.nodes) - 1):
        raise BadMany(number)
    steps = []
    step = number
    while step >= 0:
        steps.append(step)
        step = machine.begun_by[step]
    return tuple(reversed(steps))


def by_place(program, way, most):
    """(PLACE, times, whole) for each PLACE with a step: how many steps it has, how many stand at or beneath these."""
    machine = charged(program, way, most)
    charges = charges_by(machine, [node.place for node in machine.nodes])
    return tuple([(place, *charges[place]) for place in program.places if place in charges])


def by_line(program, way, most):
    """(name, own, whole) for each line with a step: how many steps are of it, how many stand at or beneath these."""
    machine = charged(program, way, most)
    charges = charges_by(machine, [node.place[0] for node in machine.nodes])
    return tuple([(name, *charges[name]) for name in program.parts + ("run",) if name in charges])


def charges_by(machine, keys):
    """By what keys tell of the steps, how many steps have it, and how many stand at or beneath some such step."""
    sizes = sizes_of(machine)
    highest = are_highest(children_of(machine), keys)
    charges = {}
    for step, key in enumerate(keys):
        many, beneath = charges.get(key, (0, 0))
        # What stands beneath another step of the same key is counted there.
        charges[key] = (many + 1, beneath + sizes[step] if highest[step] else beneath)
    return charges


def children_of(machine):
    """For each step those that it began, ascending."""
    children = [[] for _ in machine.nodes]
    for step, began in enumerate(machine.begun_by):
        if began >= 0:
            children[began].append(step)
    return children


def are_highest(children, keys):
    """For each step whether it is beneath no other step of its key."""
    highest = [False] * len(keys)
    above = {}
    waiting = [0]
    while waiting:
        step = waiting.pop()
        # A step that is left waits as the negative number next to its own.
        if step < 0:
            above[keys[-1 - step]] -= 1
            continue
        key = keys[step]
        highest[step] = above.get(key, 0) == 0
        above[key] = above.get(key, 0) + 1
        waiting.append(-1 - step)
        waiting.extend(children[step])
    return highest


def callers(program, way, most):
    """(name, PLACE, times): how often a step of this PLACE began the body of the part's fun."""
    machine = charged(program, way, most)
    bodies = {machine.funs[name].within[0].place: name for name in program.parts}
    counts = {}
    for step, node in enumerate(machine.nodes):
        if node.place in bodies:
            told = (bodies[node.place], machine.nodes[machine.begun_by[step]].place)
            counts[told] = counts.get(told, 0) + 1
    rows = [(name, place) for name in program.parts for place in program.places]
    return tuple([(*told, counts[told]) for told in rows if told in counts])


def dearest_path(program, way, most):
    """The steps from 0 on, behind each the first one that it began of those with the most steps at or beneath them."""
    machine = charged(program, way, most)
    sizes = sizes_of(machine)
    children = children_of(machine)
    steps = [0]
    while children[steps[-1]]:
        dearest = children[steps[-1]][0]
        for child in children[steps[-1]]:
            if sizes[child] > sizes[dearest]:
                dearest = child
        steps.append(dearest)
    return tuple(steps)


def longest(program, way, most):
    """(many, number): how many steps the longest path has, and the first step to which one has so many."""
    machine = charged(program, way, most)
    lengths = []
    for began in machine.begun_by:
        lengths.append(1 if began < 0 else lengths[began] + 1)
    many = max(lengths)
    return many, lengths.index(many)
