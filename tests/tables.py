"""TABLES made by lot, and a second way to tell what is in them."""

import random


class Lot:
    """Tables made by lot."""

    def __init__(self, seed):
        self.lot = random.Random(seed)

    def looks(self, below):
        uses = sorted(self.lot.sample(range(below), self.lot.randint(0, min(3, below))))
        return tuple((use, self.count()) for use in uses)

    def count(self):
        return self.lot.choice((1, 1, 1, 2, 3, 10 ** 12))

    def entry(self, below):
        kind = self.lot.choice(("number", "function", "pair", "function"))
        if kind == "number" or below == 0:
            return self.lot.choice((("number", self.lot.randint(-2, 2)), ("function", ()), ("pair", (), ())))
        if kind == "pair":
            return ("pair", self.looks(below), self.looks(below))
        asked = {(self.looks(below), self.lot.randrange(below)) for _ in range(self.lot.randint(0, 3))}
        return ("function", tuple((key, self.count()) for key in sorted(asked)))

    def table(self, many):
        table = []
        for number in range(many):
            table.append(self.entry(number) if not table or self.lot.random() < 0.8 else self.lot.choice(table))
        return tuple(table)


def content(table, use, known):
    """What a use tells, whatever the numbers of its table."""
    if use not in known:
        entry = table[use]
        if entry[0] == "number":
            known[use] = entry
        elif entry[0] == "pair":
            known[use] = ("pair",) + tuple(content_of(table, looks, known) for looks in entry[1:])
        else:
            lot = [((content_of(table, looks, known), content(table, its, known)), count)
                   for (looks, its), count in entry[1]]
            known[use] = ("function", counted(lot))
    return known[use]


def content_of(table, looks, known):
    return counted([(content(table, use, known), count) for use, count in looks])


def counted(rows):
    counts = {}
    for thing, count in rows:
        counts[thing] = counts.get(thing, 0) + count
    return frozenset(counts.items())


def named(entry):
    """All numbers that an entry names."""
    if entry[0] == "number":
        return set()
    if entry[0] == "pair":
        return {use for looks in entry[1:] for use, _ in looks}
    return {its for (_, its), _ in entry[1]} | {use for (looks, _), _ in entry[1] for use, _ in looks}


def tall(table):
    told = []
    for entry in table:
        told.append(1 + max(told[use] for use in named(entry)) if named(entry) else 0)
    return tuple(told)


def is_tidy(table, uses):
    """Whether a TABLE is tidy, and just what uses need."""
    rows = list(zip(tall(table), table))
    needed = set(uses)
    for number in reversed(range(len(table))):
        if number in needed:
            needed |= named(table[number])
    return all(one < other for one, other in zip(rows, rows[1:])) and needed == set(range(len(table)))
