"""Programs with other names for parts and for what is bound, and their parts in another sequence."""

import random

from reference import MANY
from samples import WORDS
from uselots.texts import Program

NAMES = ["a", "b", "run2", "part2", "z9", "y", "x", "w0", "fun2", "call2", "letters", "pick12", "q", "f", "g", "number", "name",
         "need", "value", "pairs", "h", "deeds", "go", "way", "o", "zz", "k", "u", "v", "t", "m1", "m2", "m3", "m4", "m5"]


class Renamed:
    """A program with other names, drawn by lot: `program` is the other one, the methods tell what is told with its names."""

    def __init__(self, program, seed):
        lot = random.Random(seed)
        words = [word for line in program.text.split("\n") for word in line.split(" ")]
        known = sorted(set(word for word in words if word not in MANY and word not in ("part", "run") and not word.lstrip("-").isdigit()))
        self.names = dict(zip(known, lot.sample(NAMES, len(known))))
        lines = [self.text(line) for line in program.text.split("\n")]
        parts = lines[:-1]
        lot.shuffle(parts)
        self.program = Program("\n".join(parts + lines[-1:]))

    def text(self, text):
        return " ".join(self.names.get(word, word) for word in text.split(" "))

    def name(self, name):
        return self.names.get(name, name)

    def place(self, place):
        """Elder PLACES too."""
        name = place[0].rstrip("'")
        return (self.name(name) + place[0][len(name):], place[1])

    def way(self, way):
        if way in WORDS:
            return way
        return (way[0], tuple(sorted((self.place(place), word) for place, word in way[1])))

    def state(self, state):
        kind, what = state
        return (kind, self.place(what)) if type(what) is tuple else state

    def call(self, call):
        """A name and what comes with it."""
        return (self.name(call[0]), *call[1:])

    def piece(self, piece):
        name, call, table, rows = piece
        return (self.name(name), call, table, tuple((self.place(place), use, under) for place, use, under in rows))
