"""Papers written otherwise: as right as they were, or bent."""

import random

from tables import named


def shuffled(lot, table, rows):
    """The same paper, its rows in another sequence in which each stands behind the one under which it stands."""
    ready, order = [0], []
    while ready:
        row = ready.pop(lot.randrange(len(ready)))
        order.append(row)
        ready += [child for child, told in enumerate(rows) if told[2] == row]
    new = {row: number for number, row in enumerate(order)}
    return table, tuple((rows[row][0], rows[row][1], new.get(rows[row][2], -1)) for row in order)


def untidied(lot, table, rows):
    """The same paper with a TABLE in another sequence, with entries twice and others that nobody needs.

    What an entry names is named by any of the numbers at which it stands, parted among them.
    """
    copies, new = {}, []
    waiting = list(range(len(table))) * 2
    lot.shuffle(waiting)
    while waiting:
        number = next(number for number in waiting if named(table[number]) <= set(copies))
        waiting.remove(number)
        if lot.random() < 0.2:
            new.append(lot.choice((("number", 4321), ("function", ()), ("pair", (), ()))))
        new.append(respelt(lot, table[number], copies))
        copies.setdefault(number, []).append(len(new) - 1)
    new.append(("pair", ((0, 7),), ((len(new) - 1, 1),)))
    return tuple(new), tuple((place, lot.choice(copies[use]), under) for place, use, under in rows)


def respelt(lot, entry, copies):
    if entry[0] == "number":
        return entry
    if entry[0] == "pair":
        return ("pair", split(lot, entry[1], copies), split(lot, entry[2], copies))
    counts = {}
    for (looks, use), count in entry[1]:
        for some in parts_of(lot, count):
            key = (split(lot, looks, copies), lot.choice(copies[use]))
            counts[key] = counts.get(key, 0) + some
    return ("function", tuple(sorted(counts.items())))


def split(lot, looks, copies):
    counts = {}
    for use, count in looks:
        for some in parts_of(lot, count):
            number = lot.choice(copies[use])
            counts[number] = counts.get(number, 0) + some
    return tuple(sorted(counts.items()))


def parts_of(lot, count):
    some = lot.randint(1, count)
    return [some] if some == count else [some, count - some]


class Bend:
    """Bends a paper in one thing, chosen by lot."""

    def __init__(self, seed, program):
        self.lot, self.program = random.Random(seed), program

    def bent(self, table, rows):
        ways = [self.use, self.place, self.under, self.out, self.out_whole, self.twice, self.exchanged,
                self.exchanged_whole, self.count, self.number, self.entry, self.alike]
        return self.lot.choice(ways)(table, rows)

    def changed(self, rows, at, row):
        return rows[:at] + (row,) + rows[at + 1:]

    def pick(self, rows):
        at = self.lot.randrange(len(rows))
        return at, *rows[at]

    def use(self, table, rows):
        at, place, _, under = self.pick(rows)
        return table, self.changed(rows, at, (place, self.lot.randrange(len(table)), under))

    def place(self, table, rows):
        at, _, use, under = self.pick(rows)
        return table, self.changed(rows, at, (self.lot.choice(self.program.places), use, under))

    def under(self, table, rows):
        at, place, use, _ = self.pick(rows)
        return table, self.changed(rows, at, (place, use, self.lot.randrange(at) if at else -1))

    def out(self, table, rows):
        """A row out; what stood under it stands where it stood."""
        if len(rows) == 1:
            return table, rows
        at = self.lot.randrange(1, len(rows))
        above = rows[at][2]
        new = {row: row - (row > at) for row in range(-1, len(rows))}
        new[at] = new[above]
        return table, tuple((place, use, new[under]) for row, (place, use, under) in enumerate(rows) if row != at)

    def out_whole(self, table, rows):
        """A row out, and all that stands under it."""
        gone = {self.lot.randrange(len(rows))} - {0}
        gone = gone | {row for row in range(len(rows)) if self.is_beneath(rows, row, gone)}
        kept = [row for row in range(len(rows)) if row not in gone]
        new = {row: number for number, row in enumerate(kept)}
        return table, tuple((*rows[row][:2], new.get(rows[row][2], -1)) for row in kept)

    def is_beneath(self, rows, row, above):
        while row != -1 and row not in above:
            row = rows[row][2]
        return row != -1

    def twice(self, table, rows):
        at = self.lot.randrange(len(rows))
        return table, rows + ((*rows[at][:2], max(rows[at][2], 0)),)

    def exchanged(self, table, rows):
        """Two rows exchanged, with what stands under them left where it is."""
        one, other = self.lot.randrange(len(rows)), self.lot.randrange(len(rows))
        rows = list(rows)
        rows[one], rows[other] = (*rows[other][:2], rows[one][2]), (*rows[one][:2], rows[other][2])
        return table, tuple(rows)

    def exchanged_whole(self, table, rows):
        """What stands under one row under another one, and the other way round, where the sequence lets it."""
        one, other = self.lot.randrange(len(rows)), self.lot.randrange(len(rows))
        new = {one: other, other: one}
        told = [(place, use, new.get(under, under)) for place, use, under in rows]
        return table, tuple((*told[row][:2], told[row][2] if told[row][2] < row else rows[row][2])
                            for row in range(len(rows)))

    def altered(self, table, at, entry):
        return table[:at] + (entry,) + table[at + 1:]

    def count(self, table, rows):
        """A count that is one more, or one less, somewhere in the TABLE; gone, where it was 1."""
        at = self.lot.randrange(len(table))
        kind, *sides = table[at]
        full = [number for number, side in enumerate(sides) if kind != "number" and side]
        if not full:
            return table, rows
        which = self.lot.choice(full)
        side = list(sides[which])
        where = self.lot.randrange(len(side))
        (thing, count), more = side[where], self.lot.choice((-1, 1))
        if kind == "function" and thing[0] and self.lot.random() < 0.5:
            (use, many), *others = thing[0]
            looks = (((use, many + more),) if many + more else ()) + tuple(others)
            side[where] = ((looks, thing[1]), count)
        else:
            side[where:where + 1] = [(thing, count + more)] if count + more else []
        sides[which] = tuple(side)
        return self.altered(table, at, (kind, *sides)), rows

    def number(self, table, rows):
        at = self.lot.randrange(len(table))
        if table[at][0] != "number":
            return table, rows
        return self.altered(table, at, ("number", table[at][1] + self.lot.choice((-1, 1)))), rows

    def entry(self, table, rows):
        at, other = self.lot.randrange(len(table)), self.lot.randrange(len(table))
        return self.altered(table, at, table[min(at, other)]), rows

    def alike(self, table, rows):
        """The use of one row for another one of the same PLACE."""
        at, place, _, under = self.pick(rows)
        uses = [use for its, use, _ in rows if its == place]
        return table, self.changed(rows, at, (place, self.lot.choice(uses), under))
