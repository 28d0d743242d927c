"""Papers cut by hand, into pieces and into outer calls."""

from judge import Judge
from uselots.uses import tidied


class Cutter:
    """A paper cut by hand: rows under rows by recursion, tables by tidied."""

    def __init__(self, program, way, table, rows):
        self.program, self.table, self.rows = program, table, rows
        self.judge = Judge(program, way, table, rows)
        self.looks = {}
        for row, home in enumerate(self.judge.homes):
            if home is not None:
                counts = self.looks.setdefault(home, {})
                counts[rows[row][1]] = counts.get(rows[row][1], 0) + 1

    def made(self, row):
        return tuple(sorted(self.looks.get(row, {}).items()))

    def told(self):
        """All PIECES, one for each body of a part's fun and one for the run's line, also those that are alike."""
        starts = [row for row, told in enumerate(self.rows) if row == 0 or self.judge.is_part(self.rows[told[2]][0])]
        return [self.piece(row) for row in starts]

    def piece(self, start):
        lines = []
        self.put(start, -1, lines)
        table, uses = tidied(self.table, tuple(self.rows[row][1] for row, _ in lines))
        rows = tuple((self.rows[row][0], use, under) for (row, under), use in zip(lines, uses))
        return (self.rows[start][0][0], self.call(start), table, rows)

    def outer(self, name):
        """((CALL, size), how many) of the outer calls of a part, ascending."""
        counts = {}
        body = (name, 4)
        for row, (place, use, under) in enumerate(self.rows):
            above = under
            while above >= 0 and self.rows[above][0] != body:
                above = self.rows[above][2]
            if place == body and above < 0:
                told = (self.call(row), self.size(row))
                counts[told] = counts.get(told, 0) + 1
        return sorted(counts.items())

    def call(self, row):
        looks = self.made(row)
        own, numbers = tidied(self.table, (self.rows[row][1],) + tuple(use for use, _ in looks))
        return (own, tuple(sorted((number, count) for number, (_, count) in zip(numbers[1:], looks))), numbers[0])

    def size(self, row):
        return 1 + sum(self.size(child) for child in self.judge.below[row])

    def put(self, row, under, lines):
        number = len(lines)
        lines.append((row, under))
        place = self.rows[row][0]
        if not self.judge.is_part(place):
            body = self.program.word(place) == "fun"
            for child in sorted(self.judge.below[row],
                                key=lambda its: (self.rows[its][0], self.made(its) if body else (), self.rows[its][1])):
                self.put(child, number, lines)
