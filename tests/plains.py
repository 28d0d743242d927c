"""Plain programs, by hand and by lot (always the same ones for the same number), and a second way to ask them."""

import random

from reference import MANY, trees_of
from samples import sample_ways
from uselots.texts import Program

DOUBLE = "part double fun x plus x x\n"
FAR = DOUBLE + "part far fun n pick n 1 call double call far plus n -1\nrun call far "
TEXTS = [
    "run 5",
    "run let x plus 1 2 let y plus x x let x 9 plus y x",
    FAR + "5",
    "part add fun x fun y plus x y\nrun call call add 2 call call add 3 4",
    "part fib fun n pick less n 2 plus call fib plus n -1 call fib plus n -2 n\nrun call fib 9",
    "part even fun n pick n 1 call odd plus n -1\npart odd fun n pick n 0 call even plus n -1\nrun call even 7",
    "part both fun x fun y pick 1 y x\npart keep fun x fun y x\nrun plus call call both 1 2 call call keep 3 call call both 4 5",
    "part same fun x fun x plus x x\nrun call call same 1 plus 1 1",
    "part four fun a fun b fun c fun d pick a b plus c c\npart one fun x 7\n"
    "run plus call call call call four 0 1 2 3 call call call call four call one 1 call one 2 call one 3 call one 4",
    "part gcd fun a fun b pick b a pick less a b call call gcd plus a 0 b call call gcd b a\nrun call call gcd 0 0",
    "part ack fun m fun n pick m plus n 1 pick n call call ack plus m -1 1 "
    "call call ack plus m -1 call call ack m plus n -1\nrun call call ack 2 2",
    "part clamp fun x plus x plus x x\npart up fun n fun x pick n x call call up plus n -1 call clamp x\nrun call call up 9 7",
    "part let1 fun x let y plus x 1 let z plus y y pick less z 5 z y\nrun plus call let1 1 call let1 8",
    "part lazy fun x 3\npart busy fun x call lazy call busy2 x\npart busy2 fun x plus x x\nrun call busy call busy call busy2 1",
]
PLAINS = [Program(text) for text in TEXTS]


class PlainMaker:
    def __init__(self, seed):
        self.lot = random.Random(seed)
        self.arities = {}
        self.own = None

    def text(self):
        lines = []
        for name in ("f", "g", "h", "k")[:self.lot.randint(0, 4)]:
            many = self.lot.choice((1, 1, 2, 2, 3, 4))
            given = [self.lot.choice("xyzu") for _ in range(many)]
            if self.lot.random() < 0.3:
                # It counts down to itself.
                body = self.lot.choice((f"call {name} plus n -1", f"plus x call {name} plus n -1"))
                given = given[1:] + ["n"]
                body = " ".join(["call"] * (many - 1)) + " " + body if many > 1 else body
                around = [self.e(given[:-1], 1) for _ in given[:-1]]
                again = " ".join(["call"] * many + [name] + around + ["plus n -1"])
                body = f"pick less n 1 {self.e(given, 2)} {self.lot.choice(('', 'plus n ', 'plus 1 '))}{again}"
                if self.lot.random() < 0.2:
                    body = body.replace("less n 1", "n")
            else:
                body = self.e(given, 4)
            self.arities[name] = many
            lines.append(f"part {name} " + " ".join(f"fun {one}" for one in given) + " " + body)
        return "\n".join(lines + ["run " + self.e([], 5)])

    def e(self, names, deep):
        if deep <= 1 or self.lot.random() < 0.1:
            return self.lot.choice(names) if names and self.lot.random() < 0.7 else str(self.lot.randint(-2, 4))
        form = self.lot.choice(("plus", "less", "pick", "let", "call", "call", "call"))
        if form in ("plus", "less"):
            return f"{form} {self.e(names, deep - 1)} {self.e(names, deep - 1)}"
        if form == "pick":
            return f"pick {self.e(names, deep - 2)} {self.e(names, deep - 1)} {self.e(names, deep - 1)}"
        if form == "call" and self.arities:
            name = self.lot.choice(sorted(self.arities))
            many = self.arities[name]
            return " ".join(["call"] * many + [name] + [self.e(names, deep - 1) for _ in range(many)])
        name = self.lot.choice("xyzv")
        return f"let {name} {self.e(names, deep - 1)} {self.e(names + [name], deep - 1)}"


def plain_sample(seed):
    """A plain Program made by lot."""
    while True:
        text = PlainMaker(seed).text()
        if max(len(line.split(" ")) for line in text.split("\n")) <= 120:
            return Program(text)
        seed += 100000


def plains_and_ways(many):
    """All plain programs written by hand, and so many by lot, each with ways for it."""
    for number, program in enumerate(PLAINS + [plain_sample(seed) for seed in range(many)]):
        for way in sample_ways(program, number):
            yield program, way


class Again(Exception):
    """An ask came within itself."""


class More(Exception):
    """One more ask came than are wanted."""


class Asker:
    """The asks of a program, worked out by recursion: `results` by asks, in the sequence in which they began."""

    def __init__(self, text, most):
        self.trees = trees_of(text)
        self.most = most
        self.results = {}

    def value(self, tree, names):
        _, word, bound, inner = tree
        if word in names:
            return names[word]
        if word == "call":
            given = []
            while tree[1] == "call":
                given.insert(0, tree[3][1])
                tree = tree[3][0]
            return self.ask((tree[1], tuple([self.value(one, names) for one in given])))
        if word == "let":
            return self.value(inner[1], {**names, bound: self.value(inner[0], names)})
        if word == "pick":
            return self.value(inner[1 if self.value(inner[0], names) == 0 else 2], names)
        if word not in MANY:
            return int(word)
        one, other = [self.value(its, names) for its in inner]
        return int(one < other) if word == "less" else max(-9999, min(9999, one + other))

    def ask(self, ask):
        if ask in self.results:
            if self.results[ask] is None:
                raise Again(ask)
            return self.results[ask]
        if len(self.results) == self.most:
            raise More(self.most)
        self.results[ask] = None
        tree, names = self.trees[ask[0]], {}
        for number in ask[1]:
            names[tree[2]] = number
            tree = tree[3][0]
        self.results[ask] = self.value(tree, names)
        return self.results[ask]
