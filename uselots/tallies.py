"""What a plain line takes by a way: steps, rows, looks, without running it."""


class Answer:
    """What is told of an ask: its result, its cost in steps, its looks at each argument.

    `scene` and `tally` tell how it was worked out; None if this is told by a piece.
    """

    def __init__(self, result, cost, looks, scene, tally):
        self.result = result
        self.cost = cost
        self.looks = looks
        self.scene = scene
        self.tally = tally


class Tally:
    """What one working out of a Scene's E takes, for its whole calls what answers tell of them.

    `cost` is how many steps it is, with all that it calls, `width` how many of them are
    its line's own; `looks` tells how often it looks at what is bound, by the PLACE of the
    fun or the let. By PLACES `copies` has, of all that is bound, how often it is worked
    out for once that something is bound there; `spans` the steps of each place.
    """

    def __init__(self, scene, words, answers):
        self.scene = scene
        self.words = words
        self.answers = answers
        self.copies = {}
        self.spans = {}
        self.cost, self.width, self.looks = self._bill(scene.root)

    def _bill(self, node):
        """(steps, rows, looks) of one working out of a node."""
        if node.kind == "call":
            bill = self._call_bill(node)
        elif node.kind == "let":
            bill = self._let_bill(node)
        else:
            bill = (1, 1, {node.binder.place: 1} if node.kind == "name" else {})
            for inner in self.scene.wanted(node):
                bill = with_bill(bill, self._bill(inner), 1)
        self.spans[node.place] = bill[0]
        return bill

    def _let_bill(self, node):
        what, body = node.within
        bill = with_bill((1, 1, {}), self._bill(body), 1)
        self.copies[what.place] = times_bound(self.words[node.place], bill[2].get(node.place, 0))
        return with_bill(bill, self._bill(what), self.copies[what.place])

    def _call_bill(self, node):
        found = self.scene.plain.wholes[node.place]
        answer = self.answers[self.scene.ask_at(node)]
        rows = len(found.calls) + 1
        bill = (rows + answer.cost, rows, {})
        for inner, call, looks in zip(found.given, found.calls[::-1], answer.looks):
            self.copies[inner.place] = times_bound(self.words[call.place], looks)
            bill = with_bill(bill, self._bill(inner), self.copies[inner.place])
        return bill


def times_bound(word, looks):
    """How often a bound thing is worked out that is looked at so often."""
    if word == "name":
        return looks
    return 1 if word == "value" else min(looks, 1)


def with_bill(bill, more, times):
    """A bill and another one, this one so often."""
    looks = {place: bill[2][place] for place in bill[2]}
    for place in more[2]:
        looks[place] = looks.get(place, 0) + more[2][place] * times
    return (bill[0] + more[0] * times, bill[1] + more[1] * times, looks)
