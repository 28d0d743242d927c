"""A second way to run a program: section 5 once more, by recursion, with nothing of the package in it."""

import sys

sys.setrecursionlimit(20000)

MANY = {"fun": 1, "call": 2, "let": 2, "plus": 2, "less": 2, "pick": 3, "pair": 2, "first": 1, "second": 1}


class Going(Exception):
    """As many steps as were wanted are done."""


class Stuck(Exception):
    pass


class Thing:
    """Something bound: an E, the names around it, the word by which it is bound, whose step it is."""

    def __init__(self, tree, names, word, owner):
        self.tree, self.names, self.word, self.owner = tree, names, word, owner
        self.value = None

    def state(self):
        return ("waits", self.tree[0]) if self.value is None else told(self.value)


def told(value):
    return value[:2]


def read(name, words, at):
    """(PLACE, word, NAME, Es) of the E that begins at word at, and where the next one begins."""
    word, start, bound = words[at], at, None
    at += 1
    if word in ("fun", "let"):
        bound = words[at]
        at += 1
    inner = []
    for _ in range(MANY.get(word, 0)):
        tree, at = read(name, words, at)
        inner.append(tree)
    return ((name, start), word, bound, inner), at


def trees_of(text):
    """By the name of its line each E of a text, as read tells it."""
    trees = {}
    for line in text.split("\n"):
        words = line.split(" ")
        name, at = ("run", 1) if words[0] == "run" else (words[1], 2)
        trees[name] = read(name, words, at)[0]
    return trees


class Reference:
    """The run of a text by a way, behind at most so many steps.

    `moments` has (PLACE, sight, pile) of each step done and of the next one, if there is one.
    """

    def __init__(self, text, way, most):
        self.trees = trees_of(text)
        self.word, self.changes = (way, {}) if isinstance(way, str) else (way[0], dict(way[1]))
        self.most = most
        self.unders, self.begins, self.moments, self.waiting = [], [], [], []
        self.end = None
        try:
            self.end = told(self.value(self.trees["run"], (), -1, -1))
        except Stuck as error:
            self.end = ("stuck", error.args[0])
        except Going:
            pass

    def begin(self, tree, names, under, began):
        sight = {}
        for name, thing in names:
            sight.setdefault(name, thing.state())
        self.moments.append((tree[0], tuple(sight.items()), tuple(reversed(self.waiting))))
        if len(self.unders) == self.most:
            raise Going()
        self.unders.append(under)
        self.begins.append(began)
        return len(self.unders) - 1

    def waited(self, step, tree, names, under):
        """The value of tree, for which step waits."""
        self.waiting.append(step)
        value = self.value(tree, names, under, step)
        self.waiting.pop()
        return value

    def number(self, step, place, tree, names):
        value = self.waited(step, tree, names, step)
        if value[0] != "number":
            raise Stuck(place)
        return value[1]

    def bind(self, tree, names, place, step):
        """A bound thing, worked out ahead if it is bound by value."""
        thing = Thing(tree, names, self.changes.get(place, self.word), step)
        if thing.word == "value":
            thing.value = self.waited(step, tree, names, step)
        return thing

    def look(self, thing, step):
        if thing.value is not None:
            return thing.value
        if thing.word == "name":
            return self.value(thing.tree, thing.names, thing.owner, step)
        value = self.waited(step, thing.tree, thing.names, thing.owner)
        thing.value = value
        return value

    def value(self, tree, names, under, began):
        place, word, bound, inner = tree
        step = self.begin(tree, names, under, began)
        known = dict(reversed(names))
        if word in known:
            return self.look(known[word], step)
        if word in self.trees:
            part = self.trees[word]
            return ("function", part[0], part, (), step)
        if word == "fun":
            return ("function", place, tree, names, step)
        if word not in MANY:
            return ("number", int(word))
        return getattr(self, "do_" + word)(step, tree, names)

    def do_call(self, step, tree, names):
        place, _, _, (called, argument) = tree
        function = self.waited(step, called, names, step)
        if function[0] != "function":
            raise Stuck(place)
        _, _, fun, around, made = function
        thing = self.bind(argument, names, place, step)
        return self.value(fun[3][0], ((fun[2], thing),) + around, made, step)

    def do_let(self, step, tree, names):
        place, _, bound, (what, body) = tree
        thing = self.bind(what, names, place, step)
        return self.value(body, ((bound, thing),) + names, step, step)

    def do_pair(self, step, tree, names):
        place, _, _, (one, other) = tree
        first = self.bind(one, names, place, step)
        return ("pair", place, first, self.bind(other, names, place, step))

    def half(self, step, tree, names, at):
        pair = self.waited(step, tree[3][0], names, step)
        if pair[0] != "pair":
            raise Stuck(tree[0])
        return self.look(pair[at], step)

    def do_first(self, step, tree, names):
        return self.half(step, tree, names, 2)

    def do_second(self, step, tree, names):
        return self.half(step, tree, names, 3)

    def do_plus(self, step, tree, names):
        one = self.number(step, tree[0], tree[3][0], names)
        both = one + self.number(step, tree[0], tree[3][1], names)
        return ("number", max(-9999, min(9999, both)))

    def do_less(self, step, tree, names):
        one = self.number(step, tree[0], tree[3][0], names)
        return ("number", int(one < self.number(step, tree[0], tree[3][1], names)))

    def do_pick(self, step, tree, names):
        which = self.number(step, tree[0], tree[3][0], names)
        return self.value(tree[3][1 if which == 0 else 2], names, step, step)
