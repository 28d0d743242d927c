"""Moments of runs: what was bound, who looks at it, and what of this is still to come.

Moment number stands ahead of the step with this number.
"""

from uselots.calls import looks_cut
from uselots.entries import gathered
from uselots.errors import BadMany
from uselots.kinds import is_between
from uselots.traces import Trace, checked, times_of
from uselots.usage import Usage


def looked(program, way, most):
    """(step, half, looks) for all bound things, looks the numbers of the steps that look at it."""
    trace = Trace(checked(program, way, most))
    return tuple([(step, half, tuple(trace.looks_at((step, half), 0))) for step, half in trace.bound_things()])


def called(program, way, most):
    """(step, calls) for all steps that made a function, calls the numbers of the steps that call it."""
    trace = Trace(checked(program, way, most))
    nodes = trace.machine.nodes
    calls = {step: [] for step, node in enumerate(nodes) if node.kind in ("fun", "part")}
    for step, node in enumerate(nodes):
        if node.kind == "call":
            # The step behind it is that of its E, whose value is the function.
            _, made = trace.worths[step + 1]
            calls[made].append(step)
    return tuple([(step, tuple(calls[step])) for step in calls])


def still(program, way, most, number):
    """(step, half, (TABLE, LOOKS)) for all things bound ahead of a moment that are looked at from it on."""
    trace = Trace(checked(program, way, most))
    check_moment(trace, number)
    table, uses = Usage(trace).tidy()
    told = []
    for step, half in ahead_of(trace, number):
        looks = gathered([(uses[look], 1) for look in trace.looks_at((step, half), number)])
        if looks:
            told.append((step, half, looks_cut(table, looks)))
    return tuple(told)


def over(program, way, most, number):
    """All things bound ahead of a moment at which no step from it on looks."""
    trace = Trace(checked(program, way, most))
    check_moment(trace, number)
    return tuple([thing for thing in ahead_of(trace, number) if not trace.looks_at(thing, number)])


def left(program, way, most, number):
    """How many steps are to come at a moment, and (PLACE, times) for their PLACES."""
    trace = Trace(checked(program, way, most))
    check_moment(trace, number)
    nodes = trace.machine.nodes[number:]
    return len(nodes), times_of(program, nodes)


def needed(program, way, most):
    """(PLACE, half, least, greatest) for all that was bound: how often such a thing was looked at."""
    trace = Trace(checked(program, way, most))
    many = looks_by_place(trace)
    told = []
    for place in program.bindings:
        for half in (0, 1, 2):
            if (place, half) in many:
                told.append((place, half, min(many[(place, half)]), max(many[(place, half)])))
    return tuple(told)


def free_early(program, most):
    """Where by need all that was bound was looked at, so that it may be bound by value."""
    return bindings_with(program, most, lambda many: many >= 1)


def free_anew(program, most):
    """Where by need all that was bound was looked at once at most, so that it may be bound by name."""
    return bindings_with(program, most, lambda many: many <= 1)


def bindings_with(program, most, fits):
    """The binding places at which something was bound by need, each with a number of looks that fits."""
    trace = Trace(checked(program, "need", most))
    many = looks_by_place(trace)
    told = []
    for place in program.bindings:
        counts = [count for half in (0, 1, 2) for count in many.get((place, half), ())]
        if counts and all([fits(count) for count in counts]):
            told.append(place)
    return tuple(told)


def check_moment(trace, number):
    if not is_between(number, 0, len(trace.machine.nodes)):
        raise BadMany(number)


def ahead_of(trace, number):
    """The bound things of steps ahead of a moment."""
    return [(step, half) for step, half in trace.bound_things() if step < number]


def looks_by_place(trace):
    """By (PLACE, half) how often each of the things that were bound there was looked at."""
    many = {}
    for step, half in trace.bound_things():
        place = trace.machine.nodes[step].place
        many.setdefault((place, half), []).append(len(trace.looks_at((step, half), 0)))
    return many
