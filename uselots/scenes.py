"""A plain line's own E, worked out for some numbers, whatever the way."""

from uselots.kinds import clamped


class Scene:
    """The own E of line name, worked out as far as it can be.

    `given` has the numbers of its funs' NAMES, by the PLACES of the funs; `worths`
    the number of each place that was worked out: each is worked out once at most.
    `waiting` are the nodes that wait, each for what is within it, the last one for nothing yet.
    """

    def __init__(self, plain, name, numbers):
        self.plain = plain
        self.root = plain.own[name]
        self.given = {fun.place: number for fun, number in zip(plain.heads.get(name, []), numbers)}
        self.worths = {}
        self.waiting = [self.root]

    def go_on(self, answers):
        """Works out what can be; returns the first ask that lacks among answers, None if all is worked out."""
        while self.waiting:
            node = self.waiting[-1]
            lacking = [inner for inner in self.wanted(node) if inner.place not in self.worths]
            if lacking:
                self.waiting.append(lacking[0])
                continue
            if node.kind == "call":
                wanted = self.ask_at(node)
                if wanted not in answers:
                    return wanted
                worth = answers[wanted].result
            else:
                worth = self._worth(node)
            self.worths[node.place] = worth
            self.waiting.pop()
        return None

    def wanted(self, node):
        """The nodes that are worked out for node, in sequence, as far as this is known."""
        if node.kind == "call":
            return self.plain.wholes[node.place].given
        if node.kind != "pick":
            return node.within
        which = node.within[0]
        return [which, self.picked(node)] if which.place in self.worths else [which]

    def picked(self, node):
        """F or G of a pick whose E is worked out."""
        return node.within[1] if self.worths[node.within[0].place] == 0 else node.within[2]

    def ask_at(self, node):
        """The ask of a whole call whose arguments are worked out."""
        found = self.plain.wholes[node.place]
        return (found.callee, tuple([self.worths[inner.place] for inner in found.given]))

    def _worth(self, node):
        """The number of a node for which all is worked out; none for whole calls."""
        if node.kind == "number":
            return int(node.sign)
        if node.kind == "name":
            binder = node.binder
            return self.given[binder.place] if binder.kind == "fun" else self.worths[binder.within[0].place]
        if node.kind in ("pick", "let"):
            last = self.picked(node) if node.kind == "pick" else node.within[1]
            return self.worths[last.place]
        one, other = [self.worths[inner.place] for inner in node.within]
        if node.kind == "less":
            return 1 if one < other else 0
        return clamped(one + other)
