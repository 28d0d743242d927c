"""A second way to run a program whose parts are exchanged amid the run: tests/reference.py, with other lines on the way."""

from reference import Reference, trees_of


class Swapping(Reference):
    """The run of a text by a way whose parts are exchanged: swaps are (number of steps, name, line), in sequence.

    Until the end the lines of a part are told as (name, how many exchanges ago none was), then as the document has it.
    """

    def __init__(self, text, way, most, swaps):
        self.swaps = list(swaps)
        self.swapped = {}
        self.first = trees_of(text)
        super().__init__(text, way, most)
        self.moments = [(self.told(place), tuple((name, self.state(state)) for name, state in sight), pile)
                        for place, sight, pile in self.moments]
        if self.end is not None:
            self.end = self.state(self.end)

    def begin(self, tree, names, under, began):
        while self.swaps and self.swaps[0][0] <= len(self.unders):
            _, name, line = self.swaps.pop(0)
            self.swapped[name] = self.swapped.get(name, 0) + 1
            self.trees[name] = self.marked(trees_of(line)[name], f"{name}#{self.swapped[name]}")
        return super().begin(tree, names, under, began)

    def marked(self, tree, name):
        """The tree with another name for its line."""
        place, word, bound, inner = tree
        return ((name, place[1]), word, bound, [self.marked(one, name) for one in inner])

    def told(self, place):
        name, _, number = place[0].partition("#")
        marks = self.swapped.get(name, 0) - (int(number) if number else 0)
        return (name + "'" * marks, place[1])

    def state(self, state):
        kind, what = state
        return state if kind == "number" else (kind, self.told(what))
