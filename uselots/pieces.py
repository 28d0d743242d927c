"""Pieces: what one use takes of one part's own line, and what it requests of other parts."""

from uselots.calls import call_cut, is_call
from uselots.checks import check_program, check_way
from uselots.cutting import cut_pieces, line_rows
from uselots.entries import is_held
from uselots.errors import BadPiece
from uselots.kinds import is_row, is_text
from uselots.rules import keeps_rule
from uselots.sheets import Sheet, are_rows
from uselots.tidying import tidy_table
from uselots.traces import checked
from uselots.usage import written
from uselots.uses import is_table


def pieces(program, way, most):
    """All unlike PIECES of the paper: that of the run's line, then by parts in sequence."""
    return pieces_of(program, way, checked(program, way, most))


def is_piece(program, way, value):
    """Whether any value is a PIECE of a part of program, or of its run's line, by way."""
    check_program(program)
    check_way(program, way)
    return sheet_of(program, way, value) is not None


def requests(program, way, value):
    """((name, CALL), times) for all that a PIECE requests."""
    check_program(program)
    check_way(program, way)
    if sheet_of(program, way, value) is None:
        raise BadPiece(value)
    return requested(program, value)


def requested(program, piece):
    """The same of what is a PIECE."""
    _, _, table, rows = piece
    many = {}
    for place, use, _ in rows:
        node = program.nodes[place]
        if node.kind == "part":
            at = program.parts.index(node.sign)
            for asked, count in table[use][1]:
                many[(at, asked)] = many.get((at, asked), 0) + count
    told = [(at, call_cut(table, asked[0], asked[1]), many[(at, asked)]) for at, asked in many]
    return tuple([((program.parts[at], call), times) for at, call, times in sorted(told)])


def pieces_of(program, way, machine):
    """All unlike PIECES of the paper of a finished machine: that of the run's line, then by parts in sequence."""
    table, rows = written(machine)
    found = cut_pieces(Sheet(program, way, table, rows, True))
    told = found["run"]
    for name in program.parts:
        told = told + sorted(found.get(name, []))
    return tuple(told)


def sheet_of(program, way, value):
    """The Sheet of any value that is a PIECE; None if it is none."""
    if not is_row(value, 4):
        return None
    name, call, table, rows = value
    if not is_text(name) or name not in program.parts + ("run",):
        return None
    if not is_call(call) or not is_table(table) or not are_rows(program, len(table), rows):
        return None
    if tidy_table(table, tuple([use for _, use, _ in rows]))[0] != table:
        return None
    sheet = Sheet(program, way, table, rows, False)
    if not begins_right(program, sheet, name) or not all([keeps_rule(sheet, row) for row in range(len(rows))]):
        return None
    if [row for row, _ in line_rows(sheet, 0)] != list(range(len(rows))):
        return None
    return sheet if call == call_cut(table, sheet.looks_of(0), sheet.uses[0]) else None


def begins_right(program, sheet, name):
    """Whether the first row is for the body of the part's fun, or for the run's E, which is held."""
    if name == "run":
        return sheet.nodes[0] == program.nodes[("run", 1)] and is_held(sheet.entry(0))
    return sheet.nodes[0] == sheet.funs[name].within[0]
