"""Rows of one line in line sequence, and papers cut into pieces."""

from uselots.calls import call_cut, cut


def line_rows(sheet, start):
    """The rows of start's line from start on, in line sequence, each with the number there of the one above it."""
    found = []
    waiting = [(start, -1)]
    while waiting:
        row, under = waiting.pop()
        number = len(found)
        found.append((row, under))
        # What stands under a row for a part's NAME are rows of that part's line.
        if sheet.nodes[row].kind != "part":
            children = sorted([(line_key(sheet, child), child) for child in sheet.children[row]])
            waiting.extend([(child, number) for _, child in reversed(children)])
    return found


def line_key(sheet, row):
    """What rows under one row stand by."""
    node = sheet.nodes[row]
    looks = sheet.looks_of(row) if node.outer.kind == "fun" else ()
    return (node.place, looks, sheet.uses[row])


def cut_pieces(sheet):
    """The PIECES of the Sheet of a paper, each once, by the name of their lines."""
    starts = {}
    for row, under in enumerate(sheet.under_of):
        if under < 0 or sheet.nodes[under].kind == "part":
            name, _ = sheet.nodes[row].place
            # All that were called for the same have one and the same piece.
            starts.setdefault((name, sheet.looks_of(row), sheet.uses[row]), row)
    found = {}
    for name, looks, use in starts:
        piece = piece_from(sheet, starts[(name, looks, use)])
        found.setdefault(name, []).append(piece)
    return found


def piece_from(sheet, start):
    """The PIECE of a paper's Sheet whose first row is start."""
    name, _ = sheet.nodes[start].place
    rows = line_rows(sheet, start)
    table, numbers = cut(sheet.table, [sheet.uses[row] for row, _ in rows])
    told = [(sheet.nodes[row].place, numbers[sheet.uses[row]], under) for row, under in rows]
    return (name, call_cut(sheet.table, sheet.looks_of(start), sheet.uses[start]), table, tuple(told))
