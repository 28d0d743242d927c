"""Uses: what is made of values, told by TABLES whose entries name one another."""

from uselots.entries import entry_in, entry_text, is_entry, is_held, is_looks, is_use, rest, total
from uselots.errors import BadLooks, BadTable, BadText, BadUse, BadUses, Unlike
from uselots.kinds import is_text, is_tuple
from uselots.tidying import heights_of, tidy_table


def is_table(value):
    """Whether any value is a TABLE, tidy or not."""
    return is_tuple(value) and all([is_entry(entry, number) for number, entry in enumerate(value)])


def check_table(table):
    if not is_table(table):
        raise BadTable(table)


def check_use(table, use):
    if not is_use(use, len(table)):
        raise BadUse(use)


def check_looks(table, looks):
    if not is_looks(looks, len(table)):
        raise BadLooks(looks)


def heights(table):
    """The heights of the table's entries."""
    check_table(table)
    return tuple(heights_of(table))


def tidied(table, uses):
    """The tidy TABLE of uses and all that they need, and where they stand in it."""
    check_table(table)
    if not is_tuple(uses) or not all([is_use(use, len(table)) for use in uses]):
        raise BadUses(uses)
    return tidy_table(table, uses)


def united(table, looks):
    """The sum of looks: a TABLE and its use in it."""
    check_table(table)
    check_looks(table, looks)
    entry = sum_of(table, looks)
    if entry is None:
        raise Unlike(looks)
    return placed(table, entry)


def parted(table, use, some):
    """What is left of use without the sum of the LOOKS some: a TABLE and its use in it."""
    check_table(table)
    check_use(table, use)
    check_looks(table, some)
    taken = sum_of(table, some)
    left = None if taken is None else rest(table[use], taken)
    if left is None:
        raise Unlike(some)
    return placed(table, left)


def sum_of(table, looks):
    """The entry that is the sum of LOOKS; None if there is none."""
    return total([(table[use], count) for use, count in looks])


def placed(table, entry):
    """The table with entry, behind all others if it is not there, and the number of the first one alike."""
    if entry in table:
        return table, table.index(entry)
    return table + (entry,), len(table)


def held(table, use):
    """Whether nothing is made of use."""
    check_table(table)
    check_use(table, use)
    return is_held(table[use])


def uses_text(table):
    """The text of a TABLE, a line for each entry."""
    check_table(table)
    return "\n".join([entry_text(number, entry) for number, entry in enumerate(table)])


def uses_in(text):
    """The TABLE with this text: BadText(number of the line) if it is none's."""
    if not is_text(text):
        raise BadText(0)
    if text == "":
        return ()
    table = []
    for number, line in enumerate(text.split("\n")):
        entry = entry_in(line)
        if not is_entry(entry, number) or entry_text(number, entry) != line:
            raise BadText(number + 1)
        table.append(entry)
    return tuple(table)
