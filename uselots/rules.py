"""The rules that rows keep, each by itself: how many rows stand under one, and what their uses are.

The functions of RULES are called with a Sheet, the number of a row, and the rows that
stand under it, those for each E that may stand there apart.
"""

from uselots.entries import called_entry, gathered, half_entry, is_held, total
from uselots.kinds import clamped


def children_apart(sheet, row):
    """The rows under a row, those for each E apart; None if one is for no E that may stand there."""
    inner = sheet.inner(row)
    apart = [[] for _ in inner]
    for child in sheet.children[row]:
        node = sheet.nodes[child]
        if node not in inner:
            return None
        apart[inner.index(node)].append(child)
    return apart


def number_of(sheet, rows):
    """The number that the use of the only one of rows tells; None if there is not one, or its use is no number."""
    if len(rows) != 1:
        return None
    entry = sheet.entry(rows[0])
    return entry[1] if entry[0] == "number" else None


def is_one_with(sheet, rows, use):
    """Whether there is just one of rows, with this use."""
    return [sheet.uses[row] for row in rows] == [use]


def is_bound(sheet, row, rows, looks):
    """Whether rows are those of an E that a row binds with looks."""
    word = sheet.words[sheet.nodes[row].place]
    if word == "name":
        return gathered([(sheet.uses[child], 1) for child in rows]) == looks
    if word == "need" and not looks:
        return not rows
    if len(rows) != 1:
        return False
    entry = sheet.entry(rows[0])
    if not looks:
        return is_held(entry)
    return entry == total([(sheet.table[use], count) for use, count in looks])


def keeps_number(sheet, row, apart):
    return sheet.entry(row) == ("number", int(sheet.nodes[row].sign))


def keeps_name(sheet, row, apart):
    return row in sheet.bodies


def keeps_fun(sheet, row, apart):
    return sheet.entry(row) == ("function", gathered([(asked_by(sheet, child), 1) for child in apart[0]]))


def asked_by(sheet, row):
    """The (LOOKS, use) for which a row for the body of a fun stands."""
    return (sheet.looks_of(row), sheet.uses[row])


def keeps_part(sheet, row, apart):
    if sheet.whole:
        return keeps_fun(sheet, row, apart)
    return sheet.entry(row)[0] == "function"


def keeps_call(sheet, row, apart):
    called, given = apart
    if len(called) != 1:
        return False
    entry = sheet.entry(called[0])
    if entry[0] != "function" or len(entry[1]) != 1:
        return False
    looks, _ = entry[1][0][0]
    return entry == called_entry(looks, sheet.uses[row]) and is_bound(sheet, row, given, looks)


def keeps_let(sheet, row, apart):
    given, body = apart
    return is_one_with(sheet, body, sheet.uses[row]) and is_bound(sheet, row, given, sheet.looks_of(body[0]))


def keeps_sum(sheet, row, apart):
    """Of plus and less."""
    one, other = [number_of(sheet, rows) for rows in apart]
    if one is None or other is None:
        return False
    if sheet.nodes[row].kind == "less":
        return sheet.entry(row) == ("number", 1 if one < other else 0)
    return sheet.entry(row) == ("number", clamped(one + other))


def keeps_pick(sheet, row, apart):
    which, zero, others = apart
    number = number_of(sheet, which)
    if number is None:
        return False
    picked, left = (zero, others) if number == 0 else (others, zero)
    return is_one_with(sheet, picked, sheet.uses[row]) and not left


def keeps_pair(sheet, row, apart):
    entry = sheet.entry(row)
    if entry[0] != "pair":
        return False
    return all([is_bound(sheet, row, rows, looks) for rows, looks in zip(apart, entry[1:])])


def keeps_half(sheet, row, apart):
    """Of first and second."""
    if len(apart[0]) != 1:
        return False
    return sheet.entry(apart[0][0]) == half_entry(sheet.nodes[row].kind, sheet.uses[row])


RULES = {
    "number": keeps_number,
    "name": keeps_name,
    "fun": keeps_fun,
    "part": keeps_part,
    "call": keeps_call,
    "let": keeps_let,
    "plus": keeps_sum,
    "less": keeps_sum,
    "pick": keeps_pick,
    "pair": keeps_pair,
    "first": keeps_half,
    "second": keeps_half,
}


def keeps_rule(sheet, row):
    """Whether a row keeps the rule of its kind."""
    apart = children_apart(sheet, row)
    if apart is None:
        return False
    rule = RULES[sheet.nodes[row].kind]
    return rule(sheet, row, apart)
