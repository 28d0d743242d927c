"""Ways beside one another: what each of them takes, and where they are unlike."""

from uselots.binding import WORDS
from uselots.checks import check_most, check_program, check_way
from uselots.entries import renumbered
from uselots.errors import BadPlaces
from uselots.kinds import ascends, is_tuple
from uselots.texts import is_place
from uselots.tidying import tidy_table
from uselots.traces import MOST, checked, finished, gone, has_value, times_of
from uselots.usage import written

MOST_PLACES = 6


def counts(program, way, most):
    """(PLACE, times) for all PLACES that the run by way worked out."""
    return times_of(program, checked(program, way, most).nodes)


def three(program, most):
    """How the runs by name, by need and by value end, and behind how many steps."""
    check_program(program)
    check_most(most, MOST)
    told = []
    for word in WORDS:
        machine = gone(program, word, most)
        told.append(("going", most) if machine.outcome is None else (machine.outcome, len(machine.nodes)))
    return tuple(told)


def least_times(program, way, most):
    """How many times more than by need the run by way works out PLACES, or how it ends without a value."""
    check_program(program)
    check_way(program, way)
    check_most(most, MOST)
    least = {place: times for place, times in times_of(program, finished(program, "need", most).nodes)}
    machine = gone(program, way, most)
    if machine.outcome is None:
        return ("ends not", ("going", most))
    if not has_value(machine):
        return ("ends not", machine.outcome)
    more = [(place, times - least.get(place, 0)) for place, times in times_of(program, machine.nodes)]
    return ("least", tuple([(place, times) for place, times in more if times > 0]))


def mixtures(program, some):
    """All WAYS that bind by need but at some PLACES, and there by each word."""
    check_program(program)
    if not are_some(program, some):
        raise BadPlaces(some)
    rows = [()]
    for place in some:
        rows = [row + ((place, word),) for row in rows for word in WORDS]
    return tuple([way_with(row) for row in rows])


def are_some(program, value):
    """Whether any value is an ascending tuple of few binding PLACES."""
    if not is_tuple(value) or len(value) > MOST_PLACES:
        return False
    if not all([is_place(program, place) and place in program.bindings for place in value]):
        return False
    return ascends(list(value))


def way_with(row):
    """The WAY that binds by need but where row has other words."""
    changes = tuple([(place, word) for place, word in row if word != "need"])
    return ("need", changes) if changes else "need"


def cheapest(program, some, most):
    """(WAY, steps): the first of the mixtures with the fewest steps."""
    ways = mixtures(program, some)
    check_most(most, MOST)
    fewest = len(finished(program, "need", most).nodes)
    # None takes fewer steps than need does, which is one of them.
    at = 0
    while not has_value(gone(program, ways[at], fewest)):
        at += 1
    return ways[at], fewest


def dearest(program, some, most):
    """(WAY, steps, others): the first of the mixtures with the most steps, and how many don't end with a value."""
    ways = mixtures(program, some)
    check_most(most, MOST)
    found = "need"
    steps = 0
    others = 0
    finished(program, "need", most)
    for way in ways:
        machine = gone(program, way, most)
        if not has_value(machine):
            others += 1
        elif len(machine.nodes) > steps:
            found = way
            steps = len(machine.nodes)
    return found, steps, others


def alike_ways(program, one, other, most):
    """Whether the papers by two ways have the same uses for each PLACE, or the first PLACE for which they don't."""
    check_program(program)
    check_way(program, one)
    check_way(program, other)
    check_most(most, MOST)
    machine = finished(program, one, most)
    beside = finished(program, other, most)
    uses, others = uses_by_place(written(machine), written(beside))
    for place in program.places:
        if len(uses.get(place, ())) != len(others.get(place, ())):
            return ("apart", place)
    for place in program.places:
        if uses.get(place, ()) != others.get(place, ()):
            return ("uses", place)
    return ("alike",)


def uses_by_place(one, other):
    """For each of two papers by PLACE the uses of its rows, sorted, as numbers of the one TABLE of both."""
    table, rows = one
    beside, lines = other
    shift = {use: use + len(table) for use in range(len(beside))}
    uses = [use for _, use, _ in rows] + [shift[use] for _, use, _ in lines]
    _, numbers = tidy_table(table + tuple([renumbered(entry, shift) for entry in beside]), tuple(uses))
    return grouped(rows, numbers[:len(rows)]), grouped(lines, numbers[len(rows):])


def grouped(rows, numbers):
    """By PLACE the numbers of its rows, sorted."""
    apart = {}
    for row, number in zip(rows, numbers):
        apart.setdefault(row[0], []).append(number)
    return {place: sorted(apart[place]) for place in apart}
