"""Programs and ways made by lot, always the same ones for the same number."""

import random

from uselots.texts import Program

WORDS = ("name", "need", "value")
NUMBER = "number"


class Maker:
    """Makes texts whose Es are mostly of the kind that is wanted where they stand.

    A kind is NUMBER, ("to", kind, kind) of functions, or ("pair", kind, kind).
    """

    def __init__(self, seed):
        self.lot = random.Random(seed)
        self.parts = {}

    def kind(self, deep):
        if deep == 0 or self.lot.random() < 0.6:
            return NUMBER
        return (self.lot.choice(("to", "pair")), self.kind(deep - 1), self.kind(deep - 1))

    def text(self):
        for name in ("f", "g", "h")[:self.lot.randint(0, 3)]:
            self.parts[name] = ("to", self.kind(1), self.kind(2))
        lines = []
        for name, (_, given, come) in self.parts.items():
            argument = self.lot.choice("xyz")
            lines.append(f"part {name} fun {argument} " + self.e(come, {argument: given}, 4))
        return "\n".join(lines + ["run " + self.e(self.kind(2), {}, 6)])

    def e(self, kind, names, deep):
        """An E of this kind, with these names bound around it, of their kinds."""
        if self.lot.random() < 0.02:
            kind = self.kind(1)
        known = [name for name, its in list(self.parts.items()) + list(names.items()) if its == kind]
        if known and self.lot.random() < (0.45 if deep > 1 else 0.95):
            return self.lot.choice(known)
        if deep <= 1:
            return self.simple(kind, names, known)
        forms = [self.call, self.call, self.call, self.let, self.let, self.pick, self.half]
        if kind == NUMBER:
            forms += [self.sum, self.sum, self.simple_number]
        else:
            forms += [self.own] * 5
        return self.lot.choice(forms)(kind, names, deep)

    def simple(self, kind, names, known):
        if kind == NUMBER:
            return str(self.lot.randint(-2, 3))
        return self.own(kind, names, 1)

    def simple_number(self, kind, names, deep):
        return self.simple(NUMBER, names, [])

    def own(self, kind, names, deep):
        if kind == NUMBER:
            return self.simple(kind, names, [])
        word, one, other = kind
        if word == "pair":
            return "pair " + self.e(one, names, deep - 1) + " " + self.e(other, names, deep - 1)
        name = self.lot.choice("xyzuv")
        return f"fun {name} " + self.e(other, {**names, name: one}, deep - 1)

    def call(self, kind, names, deep):
        able = [its for its in list(self.parts.values()) + list(names.values()) if its[0] == "to" and its[2] == kind]
        given = self.lot.choice(able)[1] if able and self.lot.random() < 0.7 else self.kind(1)
        return "call " + self.e(("to", given, kind), names, deep - 1) + " " + self.e(given, names, deep - 1)

    def let(self, kind, names, deep):
        given = self.kind(2)
        name = self.lot.choice("xyzuv")
        what = self.e(given, names, deep - 1)
        return f"let {name} {what} " + self.e(kind, {**names, name: given}, deep - 1)

    def pick(self, kind, names, deep):
        which = self.e(NUMBER, names, deep - 2)
        return f"pick {which} " + self.e(kind, names, deep - 1) + " " + self.e(kind, names, deep - 1)

    def half(self, kind, names, deep):
        if self.lot.random() < 0.5:
            return "first " + self.e(("pair", kind, self.kind(1)), names, deep - 1)
        return "second " + self.e(("pair", self.kind(1), kind), names, deep - 1)

    def sum(self, kind, names, deep):
        word = self.lot.choice(("plus", "plus", "less"))
        return f"{word} " + self.e(NUMBER, names, deep - 1) + " " + self.e(NUMBER, names, deep - 1)


def sample(seed):
    """A Program made by lot."""
    while True:
        text = Maker(seed).text()
        if max(len(line.split(" ")) for line in text.split("\n")) <= 120:
            return Program(text)
        seed += 100000


def sample_ways(program, seed):
    """The three words, and some mixtures made by lot."""
    lot = random.Random(seed)
    ways = list(WORDS)
    for _ in range(3):
        word = lot.choice(WORDS)
        others = [other for other in WORDS if other != word]
        changes = tuple((place, lot.choice(others)) for place in sorted(program.bindings) if lot.random() < 0.6)
        if changes:
            ways.append((word, changes))
    return ways


def without(way, name):
    """The way without its changes in the line of this name; its word alone, if none is left."""
    if way in WORDS:
        return way
    changes = tuple(change for change in way[1] if change[0][0] != name)
    return (way[0], changes) if changes else way[0]


def siblings(seed, many):
    """Programs made by lot that have the same parts' lines, and unlike expressions."""
    maker = Maker(seed)
    lines = maker.text().split("\n")[:-1]
    told = []
    for _ in range(many):
        run = "run " + maker.e(maker.kind(1), {}, 5)
        if max(len(line.split(" ")) for line in lines + [run]) <= 120:
            told.append(Program("\n".join(lines + [run])))
    return told
