"""USES and CALLS: what is told with just the entries that it needs, cut out of a tidy TABLE."""

from uselots.entries import is_looks, is_use, names_of, renamed, renumbered
from uselots.kinds import is_row
from uselots.uses import is_table


def cut(table, uses):
    """Of a tidy TABLE the tidy one of uses alone, and in it the numbers of what is needed, by their elder ones."""
    wanted = {}
    waiting = list(uses)
    while waiting:
        use = waiting.pop()
        if use not in wanted:
            wanted[use] = True
            waiting.extend(names_of(table[use]))
    # What is left of a tidy TABLE stands in the same sequence as there: no height and no order changes.
    numbers = {use: number for number, use in enumerate(sorted(list(wanted)))}
    return tuple([renumbered(table[use], numbers) for use in numbers]), numbers


def looks_cut(table, looks):
    """(TABLE, LOOKS) of LOOKS of a tidy TABLE."""
    own, numbers = cut(table, [use for use, _ in looks])
    return own, renamed(looks, numbers)


def call_cut(table, looks, use):
    """The CALL of LOOKS and a use of a tidy TABLE."""
    own, numbers = cut(table, [use] + [its for its, _ in looks])
    return own, renamed(looks, numbers), numbers[use]


def is_call(value):
    """Whether any value has the form of a CALL; its TABLE need not be tidy."""
    if not is_row(value, 3):
        return False
    table, looks, use = value
    return is_table(table) and is_looks(looks, len(table)) and is_use(use, len(table))
