"""PIECES written by hand: of lines `part NAME fun x call OTHER x`, by need, whatever OTHER may be."""

from uselots.uses import tidied


def handed(name, other, given, looks, come):
    """The piece in which OTHER is called for so many looks at the number given, and the number come comes of it."""
    made = ((0, looks),) if looks else ()
    raw = (("number", given), ("number", come), ("function", (((made, 1), 1),)))
    lines = [((name, 4), 1, -1), ((name, 5), 2, 0)] + ([((name, 6), 0, 0)] if looks else [])
    table, uses = tidied(raw, tuple(use for _, use, _ in lines))
    rows = tuple((place, use, under) for (place, _, under), use in zip(lines, uses))
    return (name, call_of(given, 1 if looks else 0, come), table, rows)


def call_of(given, looks, come):
    """The CALL that looks so often at the number given, and comes to the number come."""
    raw = (("number", given), ("number", come))
    own, numbers = tidied(raw, (1, 0) if looks else (1,))
    return (own, ((numbers[1], looks),) if looks else (), numbers[0])
