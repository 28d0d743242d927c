"""What a step of each kind does, and what is done with each value that comes.

The functions of STARTS are called with the machine and the number of a step that
begins; those of TAKERS also with a value for which this step waits. They return the
step's own value, None as long as it has none; then something is due, or the run is stuck.
"""

from uselots.kinds import clamped


def start_number(machine, step):
    return ("number", int(machine.nodes[step].sign))


def start_function(machine, step):
    return ("function", step)


def start_part(machine, step):
    # The line that the part has now: it may be exchanged later.
    machine.keep(step, machine.funs[machine.nodes[step].sign])
    return ("function", step)


def start_name(machine, step):
    return machine.look(step, machine.meant(machine.nodes[step].sign, machine.rooms[step]))


def start_first(machine, step):
    """Of all that work out their first E ahead of anything else, and wait for it."""
    machine.work_out(step, 0)


def start_let(machine, step):
    if machine.word(step) == "value":
        machine.work_out(step, 0)
    else:
        machine.go_into(step)


def start_pair(machine, step):
    if machine.word(step) != "value":
        return ("pair", step)
    machine.work_out(step, 0)
    return None


def take_name(machine, step, value):
    machine.keep(machine.memory[step], value)
    return value


def take_call(machine, step, value):
    kind, what = value
    if step in machine.memory:
        machine.keep((step, 0), value)
        machine.go_into(step)
    elif kind != "function":
        machine.stick(step)
    else:
        machine.keep(step, what)
        if machine.word(step) == "value":
            machine.work_out(step, 1)
        else:
            machine.go_into(step)


def take_let(machine, step, value):
    machine.keep((step, 0), value)
    machine.go_into(step)


def take_pair(machine, step, value):
    if (step, 1) in machine.memory:
        machine.keep((step, 2), value)
        return ("pair", step)
    machine.keep((step, 1), value)
    machine.work_out(step, 1)
    return None


def take_sum(machine, step, value):
    """Of plus and less."""
    kind, what = value
    if kind != "number":
        machine.stick(step)
        return None
    if step not in machine.memory:
        machine.keep(step, what)
        machine.work_out(step, 1)
        return None
    if machine.nodes[step].kind == "less":
        return ("number", 1 if machine.memory[step] < what else 0)
    return ("number", clamped(machine.memory[step] + what))


def take_pick(machine, step, value):
    kind, what = value
    if kind != "number":
        machine.stick(step)
    else:
        machine.go_over(step, 1 if what == 0 else 2)


def take_half(machine, step, value):
    """Of first and second: the pair, or the half if step works that out."""
    if step in machine.memory:
        machine.keep(machine.memory[step], value)
        return value
    kind, what = value
    if kind != "pair":
        machine.stick(step)
        return None
    return machine.look(step, (what, 1 if machine.nodes[step].kind == "first" else 2))


STARTS = {
    "number": start_number,
    "fun": start_function,
    "part": start_part,
    "name": start_name,
    "call": start_first,
    "plus": start_first,
    "less": start_first,
    "pick": start_first,
    "first": start_first,
    "second": start_first,
    "let": start_let,
    "pair": start_pair,
}

TAKERS = {
    "name": take_name,
    "call": take_call,
    "let": take_let,
    "pair": take_pair,
    "plus": take_sum,
    "less": take_sum,
    "pick": take_pick,
    "first": take_half,
    "second": take_half,
}


def advance(machine):
    """Does the step that is due, and all else up to where the next one is, or the end; returns its number."""
    step = machine.enter()
    start = STARTS[machine.nodes[step].kind]
    value = start(machine, step)
    giving = step
    waiting = machine.behind[step]
    while value is not None and waiting >= 0:
        machine.keep_value(giving, value)
        take = TAKERS[machine.nodes[waiting].kind]
        value = take(machine, waiting, value)
        giving = waiting
        waiting = machine.behind[waiting]
    if value is not None:
        machine.keep_value(giving, value)
        machine.outcome = machine.tell(value)
    return step
