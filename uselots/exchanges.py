"""Parts exchanged: what a whole takes if one part is written otherwise, also amid a run."""

from uselots.binding import changes_in, is_way, way_without
from uselots.books import size
from uselots.calls import call_cut
from uselots.checks import check_most, check_program, check_way
from uselots.errors import BadLine, BadMany, BadProgram, BadWay, NoPart, OtherParts
from uselots.kinds import is_between, is_text
from uselots.sheets import Sheet
from uselots.texts import Program, joined_text
from uselots.traces import MOST, finished, gone, has_value
from uselots.usage import written


def exchanged(program, name, line):
    """The Program with this line in the place of the part's: NoPart, BadLine."""
    check_program(program)
    check_part(program, name)
    if not is_text(line) or "\n" in line or line.split(" ")[:2] != ["part", name]:
        raise BadLine(line)
    lines = [line if its == name else program.line(its) for its in program.parts + ("run",)]
    try:
        return Program("\n".join(lines))
    except BadProgram:
        raise BadLine(line) from None


def check_part(program, name):
    """NoPart unless name is that of a part."""
    if not is_text(name) or name not in program.parts:
        raise NoPart(name)


def outer_calls(program, way, most, name):
    """(CALL, count, size) for all unlike CALLS of the part's outer calls."""
    check_program(program)
    check_way(program, way)
    check_most(most, MOST)
    check_part(program, name)
    return outer_calls_of(program, way, finished(program, way, most), name, 0)


def outer_calls_of(program, way, machine, name, number):
    """The same of a finished machine, for the functions of the part that its steps from this number on made: Wide."""
    table, rows = written(machine)
    sheet = Sheet(program, way, table, rows, True)
    sizes = [1] * len(rows)
    for row in reversed(range(1, len(rows))):
        under = sheet.under_of[row]
        sizes[under] = sizes[under] + sizes[row]
    counts = {}
    for row in outer_rows(sheet, name, number):
        asked = (sheet.looks_of(row), sheet.uses[row], sizes[row])
        counts[asked] = counts.get(asked, 0) + 1
    return tuple(sorted([(call_cut(table, looks, use), counts[(looks, use, its)], its) for looks, use, its in counts]))


def outer_rows(sheet, name, number):
    """The rows for the body of the part's fun, made by a row from number on, that stand under no other such one."""
    body = sheet.funs[name].within[0]
    beneath = []
    found = []
    for row, node in enumerate(sheet.nodes):
        under = sheet.under_of[row]
        inside = under >= 0 and beneath[under]
        called = node == body and under >= number
        if called and not inside:
            found.append(row)
        beneath.append(inside or called)
    return found


def compared(program, way, most, name, line):
    """What the program with another line for the part does, beside it."""
    check_program(program)
    check_way(program, way)
    check_most(most, MOST)
    newer = exchanged(program, name, line)
    if not is_way(newer, way):
        raise BadWay(way)
    before = finished(program, way, most)
    behind = gone(newer, way, most)
    if not has_value(behind):
        return ("ends not", ("going", most) if behind.outcome is None else behind.outcome)
    steps, later = len(before.nodes), len(behind.nodes)
    ones = by_calls(outer_calls_of(program, way, before, name, 0))
    others = by_calls(outer_calls_of(newer, way, behind, name, 0))
    changes = []
    for call in sorted(list(ones) + [call for call in others if call not in ones]):
        one, other = ones.get(call, (0, 0)), others.get(call, (0, 0))
        if one[0] != other[0]:
            return ("other", steps, later, call)
        changes.append((call, one[0], one[1], other[1]))
    return ("same", steps, later, tuple(changes))


def by_calls(told):
    """(count, size) by CALLS."""
    return {call: (count, its) for call, count, its in told}


def predicted(program, way, most, name, book):
    """("steps", later): how many steps the run takes with the part's line as the book has it."""
    check_program(program)
    check_way(program, way)
    check_most(most, MOST)
    check_part(program, name)
    check_others(program, way, name, book)
    return foretold(program, way, finished(program, way, most), name, 0, book)


def check_others(program, way, name, book):
    """OtherParts unless a book is one of the program's parts by its way, another line of part name aside."""
    theirs = joined_text(book.parts, "0")
    alike = theirs.parts == program.parts and book.way == way_without(way, "run")
    if not alike or not all([its == name or theirs.line(its) == program.line(its) for its in program.parts]):
        raise OtherParts(book)


def foretold(program, way, machine, name, number, book):
    """("steps", later) with the book's sizes for the outer calls of functions made by steps from number on."""
    later = len(machine.nodes)
    for call, count, its in outer_calls_of(program, way, machine, name, number):
        later = later + count * (size(book, name, call) - its)
    return ("steps", later)


def exchanged_run(run, name, line):
    """The Run that has done the same steps, and goes on with another line for the part: NoPart, BadLine, Ended."""
    newer = exchanged(run.program, name, line)
    twin = run.copy()
    twin.renew(newer, name)
    return twin


def predicted_run(program, way, most, number, name, book):
    """("steps", later): how many steps the run takes if the part is exchanged behind so many for the book's line."""
    check_program(program)
    check_way(program, way)
    check_most(most, MOST)
    machine = finished(program, way, most)
    if not is_between(number, 0, len(machine.nodes)):
        raise BadMany(number)
    check_part(program, name)
    if changes_in(way, name):
        raise OtherParts(book)
    check_others(program, way, name, book)
    return foretold(program, way, machine, name, number, book)
