"""A second way to tell uses: each value goes through taps, one a look, that write down what is made of it.

Runs are worked out once more, by recursion, as in reference.py. Nothing is told from
the end back: what a row's value was used for is what was written down at its tap.
"""

from reference import Going, Stuck, trees_of
from tables import counted


class Tap:
    """A value as one step got it; what is made of it is made of all that it was got from, too."""

    def __init__(self, value, source=None):
        self.value, self.source, self.made = value, source, []
        self.kind = value[0]

    def make(self, *what):
        tap = self
        while tap is not None:
            tap.made.append(what)
            tap = tap.source


class Thing:
    def __init__(self, tree, names, word, owner, half):
        self.tree, self.names, self.word, self.owner, self.half = tree, names, word, owner, half
        self.tap, self.looks = None, []


class Taps:
    """The run of a text by a way that ends behind at most so many steps: `end` is None if it doesn't.

    `rows` has (PLACE, under) of each step; `things` all bound things; `calls`, by a step
    that made a function, the steps that call it.
    """

    def __init__(self, text, way, most):
        self.trees = trees_of(text)
        self.word, self.changes = (way, {}) if isinstance(way, str) else (way[0], dict(way[1]))
        self.most = most
        self.rows, self.taps, self.things, self.calls = [], {}, [], {}
        self.end = None
        try:
            self.end = self.value(self.trees["run"], (), -1).value[:2]
        except Stuck as error:
            self.end = ("stuck", error.args[0])
        except Going:
            pass

    def value(self, tree, names, under):
        place, word, bound, inner = tree
        if len(self.rows) == self.most:
            raise Going()
        step = len(self.rows)
        self.rows.append((place, under))
        self.taps[step] = getattr(self, "do_" + word, self.do_other)(step, tree, dict(reversed(names)), names)
        return self.taps[step]

    def do_other(self, step, tree, known, names):
        place, word, _, _ = tree
        if word in known:
            return self.look(known[word], step)
        if word in self.trees:
            self.calls[step] = []
            return Tap(("function", self.trees[word][0], self.trees[word], (), step))
        return Tap(("number", int(word)))

    def do_fun(self, step, tree, known, names):
        self.calls[step] = []
        return Tap(("function", tree[0], tree, names, step))

    def bind(self, tree, names, place, step, half):
        thing = Thing(tree, names, self.changes.get(place, self.word), step, half)
        self.things.append(thing)
        if thing.word == "value":
            thing.tap = self.value(tree, names, step)
        return thing

    def look(self, thing, step):
        thing.looks.append(step)
        if thing.word == "name":
            return self.value(thing.tree, thing.names, thing.owner)
        if thing.tap is None:
            thing.tap = self.value(thing.tree, thing.names, thing.owner)
        return Tap(thing.tap.value, thing.tap)

    def do_call(self, step, tree, known, names):
        place, _, _, (called, argument) = tree
        tap = self.value(called, names, step)
        if tap.kind != "function":
            raise Stuck(place)
        _, _, fun, around, made = tap.value
        self.calls[made].append(step)
        thing = self.bind(argument, names, place, step, 0)
        tap.make("call", thing, step)
        return self.value(fun[3][0], ((fun[2], thing),) + around, made)

    def do_let(self, step, tree, known, names):
        place, _, bound, (what, body) = tree
        thing = self.bind(what, names, place, step, 0)
        return self.value(body, ((bound, thing),) + names, step)

    def do_pair(self, step, tree, known, names):
        place, _, _, (one, other) = tree
        first = self.bind(one, names, place, step, 1)
        return Tap(("pair", place, first, self.bind(other, names, place, step, 2)))

    def half(self, step, tree, names, at):
        tap = self.value(tree[3][0], names, step)
        if tap.kind != "pair":
            raise Stuck(tree[0])
        tap.make("half", at, step)
        return self.look(tap.value[1 + at], step)

    def do_first(self, step, tree, known, names):
        return self.half(step, tree, names, 1)

    def do_second(self, step, tree, known, names):
        return self.half(step, tree, names, 2)

    def number(self, tree, names, step, place):
        tap = self.value(tree, names, step)
        if tap.kind != "number":
            raise Stuck(place)
        return tap.value[1]

    def do_plus(self, step, tree, known, names):
        one, other = [self.number(inner, names, step, tree[0]) for inner in tree[3]]
        return Tap(("number", max(-9999, min(9999, one + other))))

    def do_less(self, step, tree, known, names):
        one, other = [self.number(inner, names, step, tree[0]) for inner in tree[3]]
        return Tap(("number", int(one < other)))

    def do_pick(self, step, tree, known, names):
        which = self.number(tree[3][0], names, step, tree[0])
        return self.value(tree[3][1 if which == 0 else 2], names, step)

    def contents(self):
        """For each step what its use tells, as tables.content tells it."""
        known = {}

        def use(step):
            tap = self.taps[step]
            if id(tap) not in known:
                known[id(tap)] = told(tap)
            return known[id(tap)]

        def told(tap):
            if tap.kind == "number":
                return tap.value[:2]
            if tap.kind == "function":
                return ("function", counted([((looks(thing.looks), use(step)), 1) for _, thing, step in tap.made]))
            return ("pair", *(looks([step for _, half, step in tap.made if half == at]) for at in (1, 2)))

        def looks(steps):
            return counted([(use(step), 1) for step in steps])

        return [use(step) for step in range(len(self.rows))]
