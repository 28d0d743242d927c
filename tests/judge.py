"""The rules of section 7 once more, read off the document row by row, with contents in the place of numbers."""

from tables import content, content_of, counted, is_tidy

NOTHING = frozenset()


def is_number(value):
    return isinstance(value, int) and not isinstance(value, bool)


def sum_of(looks):
    """What the sum of LOOKS tells, LOOKS as tables.content tells them; None without one."""
    pairs = sorted(looks, key=repr)
    kinds = {use[0] for use, _ in pairs}
    if len(kinds) != 1:
        return None
    kind = kinds.pop()
    if kind == "number":
        return pairs[0][0] if len(pairs) == 1 else None
    sides = range(1, len(pairs[0][0]))
    return (kind, *(counted([(thing, many * times) for use, times in pairs for thing, many in use[at]]) for at in sides))


def is_held(use):
    return use[0] == "number" or not any(use[1:])


class Judge:
    """Rows of a program: `wrong` is -1 if they have not the form, otherwise the list of those that keep no rule."""

    def __init__(self, program, way, table, rows, piece=None):
        self.program, self.piece = program, piece
        self.word, self.changes = (way, {}) if isinstance(way, str) else (way[0], dict(way[1]))
        self.wrong = -1
        if not self.has_form(table, rows):
            return
        known = {}
        self.places = [place for place, _, _ in rows]
        self.uses = [content(table, use, known) for _, use, _ in rows]
        self.unders = [under for _, _, under in rows]
        self.below = [[child for child, under in enumerate(self.unders) if under == row] for row in range(len(rows))]
        self.homes = [self.home(row) for row in range(len(rows))]
        self.wrong = [row for row in range(len(rows)) if not self.is_right(row)]

    def has_form(self, table, rows):
        if type(rows) is not tuple or [row[2] for row in rows if type(row) is tuple and len(row) == 3].count(-1) != 1:
            return False
        for number, row in enumerate(rows):
            if type(row) is not tuple or len(row) != 3:
                return False
            place, use, under = row
            if not any(type(place) is tuple and place == one and type(place[1]) is int for one in self.program.places):
                return False
            if not is_number(use) or not 0 <= use < len(table):
                return False
            if not is_number(under) or not -1 <= under < number:
                return False
        return True

    def is_part(self, place):
        return self.program.word(place) in self.program.parts and self.program.bound(place) is None

    def home(self, row):
        """The row for a body that a row for a bound name belongs to."""
        binder = self.program.bound(self.places[row])
        if binder is None:
            return None
        body = self.program.inner(binder)[-1]
        while row != -1:
            if self.places[row] == body:
                return row
            if self.is_part(self.places[row]):
                return None
            row = self.unders[row]
        return None

    def made(self, body):
        """The LOOKS that a row for a body makes of the name bound there."""
        return counted([(self.uses[row], 1) for row, home in enumerate(self.homes) if home == body])

    def is_right(self, row):
        place, use = self.places[row], self.uses[row]
        if row == 0 and not self.is_first(place, use):
            return False
        word = self.program.word(place)
        rule = getattr(self, "rule_" + word, None)
        if rule is None and self.program.bound(place) is not None:
            return self.homes[row] is not None and not self.below[row]
        if rule is None and word in self.program.parts:
            return self.rule_part(row, word, use)
        if rule is None:
            return use == ("number", int(word)) and not self.below[row]
        inner = self.program.inner(place)
        lists = [[child for child in self.below[row] if self.places[child] == one] for one in inner]
        return sum(map(len, lists)) == len(self.below[row]) and rule(row, use, *lists)

    def is_first(self, place, use):
        if self.piece in (None, "run"):
            return place == ("run", 1) and is_held(use)
        return place == (self.piece, 4)

    def bound(self, row, children, looks):
        word = self.changes.get(self.places[row], self.word)
        uses = [self.uses[child] for child in children]
        if word == "name":
            return counted([(use, 1) for use in uses]) == looks
        if looks == NOTHING:
            return uses == [] if word == "need" else len(uses) == 1 and is_held(uses[0])
        return len(uses) == 1 and uses[0] == sum_of(looks)

    def lot(self, bodies):
        return ("function", counted([((self.made(body), self.uses[body]), 1) for body in bodies]))

    def rule_part(self, row, name, use):
        if self.piece is not None:
            return use[0] == "function" and not self.below[row]
        right = all(self.places[child] == (name, 4) for child in self.below[row])
        return right and use == self.lot(self.below[row])

    def rule_fun(self, row, use, bodies):
        return use == self.lot(bodies)

    def rule_call(self, row, use, called, given):
        if len(called) != 1:
            return False
        kind, *rest = self.uses[called[0]]
        if kind != "function" or len(rest[0]) != 1:
            return False
        ((looks, its), count), = rest[0]
        return its == use and count == 1 and self.bound(row, given, looks)

    def rule_let(self, row, use, given, body):
        return len(body) == 1 and self.uses[body[0]] == use and self.bound(row, given, self.made(body[0]))

    def numbers(self, *lists):
        if any(len(rows) != 1 or self.uses[rows[0]][0] != "number" for rows in lists):
            return None
        return [self.uses[rows[0]][1] for rows in lists]

    def rule_plus(self, row, use, one, other):
        told = self.numbers(one, other)
        return told is not None and use == ("number", max(-9999, min(9999, sum(told))))

    def rule_less(self, row, use, one, other):
        told = self.numbers(one, other)
        return told is not None and use == ("number", 1 if told[0] < told[1] else 0)

    def rule_pick(self, row, use, which, one, other):
        told = self.numbers(which)
        if told is None:
            return False
        taken, left = (one, other) if told == [0] else (other, one)
        return not left and len(taken) == 1 and self.uses[taken[0]] == use

    def rule_pair(self, row, use, one, other):
        return use[0] == "pair" and self.bound(row, one, use[1]) and self.bound(row, other, use[2])

    def rule_first(self, row, use, pair):
        return len(pair) == 1 and self.uses[pair[0]] == ("pair", counted([(use, 1)]), NOTHING)

    def rule_second(self, row, use, pair):
        return len(pair) == 1 and self.uses[pair[0]] == ("pair", NOTHING, counted([(use, 1)]))


def piece_is_right(program, way, value):
    """Whether a tuple (name, CALL, TABLE, ROWS) of TABLES and forms that are right is a PIECE."""
    name, (own, looks, use), table, rows = value
    judge = Judge(program, way, table, rows, name)
    if judge.wrong != [] or any(place[0] != name for place in judge.places):
        return False
    if not is_tidy(table, [its for _, its, _ in rows]) or not is_tidy(own, [its for its, _ in looks] + [use]):
        return False
    if content(own, use, {}) != judge.uses[0] or content_of(own, looks, {}) != judge.made(0):
        return False
    return in_line_sequence(program, judge, table, rows)


def in_line_sequence(program, judge, table, rows):
    for number in range(1, len(rows)):
        above = number - 1
        while above != rows[number][2] and above != -1:
            above = rows[above][2]
        if above == -1:
            return False
    for children in judge.below:
        keys = []
        for child in children:
            place, use, _ = rows[child]
            looks = ()
            if program.word(program.around(place)) == "fun":
                counts = {}
                for row, home in enumerate(judge.homes):
                    if home == child:
                        counts[rows[row][1]] = counts.get(rows[row][1], 0) + 1
                looks = tuple(sorted(counts.items()))
            keys.append((place, looks, use))
        if keys != sorted(keys):
            return False
    return True
