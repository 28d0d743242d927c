"""Papers: what each step's value was used for, row by row, and whether rows keep the rules."""

from uselots.checks import check_program, check_way
from uselots.entries import is_held
from uselots.errors import BadPaper
from uselots.kinds import is_between, is_row
from uselots.rules import keeps_rule
from uselots.sheets import Sheet, are_rows
from uselots.tidying import tidy_table
from uselots.traces import checked, finished
from uselots.usage import written
from uselots.uses import is_table


def paper(program, way, most):
    """(TABLE, ROWS) of the run of program by way, with a row for each step."""
    return written(checked(program, way, most))


def is_paper(program, way, value):
    """Whether any value is a paper of program by way, its rows in any sequence, its TABLE tidy or not."""
    return wrong_row(program, way, value) is None


def wrong_row(program, way, value):
    """The number of a row that does not keep its rule; None of a paper, -1 of what has not even the form."""
    check_program(program)
    check_way(program, way)
    sheet = sheet_of(program, way, value)
    if sheet is None:
        return -1
    return first_wrong(program, sheet)


def shows_wrong_row(program, way, claim, value):
    """Whether value is what wrong_row may tell of claim."""
    check_program(program)
    check_way(program, way)
    sheet = sheet_of(program, way, claim)
    if sheet is None:
        return is_between(value, -1, -1)
    if value is None:
        return first_wrong(program, sheet) is None
    return is_between(value, 0, len(sheet.nodes) - 1) and not is_right(program, sheet, value)


def paper_end(program, way, value):
    """(END, how many rows) of a paper."""
    machine = run_of(program, way, value)
    return machine.outcome, len(machine.nodes)


def ordered(program, way, value):
    """The paper as paper tells it that has the same rows."""
    return written(run_of(program, way, value))


def run_of(program, way, value):
    """The finished machine of which value is a paper: BadPaper."""
    if not is_paper(program, way, value):
        raise BadPaper(value)
    # There is a paper just if the run ends with a value behind as many steps as it has rows.
    return finished(program, way, len(value[1]))


def sheet_of(program, way, value):
    """The Sheet of any value that has the form of a paper; None if it has not."""
    if not is_row(value, 2):
        return None
    table, rows = value
    if not is_table(table) or not are_rows(program, len(table), rows):
        return None
    # In the tidy TABLE of all entries numbers are equal just if they tell the same.
    tidy, numbers = tidy_table(table, tuple(range(len(table))))
    told = [(place, numbers[use], under) for place, use, under in rows]
    return Sheet(program, way, tidy, told, True)


def first_wrong(program, sheet):
    """The number of the first row that does not keep its rule; None if there is none."""
    for row in range(len(sheet.nodes)):
        if not is_right(program, sheet, row):
            return row
    return None


def is_right(program, sheet, row):
    """Whether a row keeps its rule, the first one also that of the run's expression."""
    if row == 0 and not (sheet.nodes[0] == program.nodes[("run", 1)] and is_held(sheet.entry(0))):
        return False
    return keeps_rule(sheet, row)
