"""Plain programs: those in which only numbers are handed about, by whole calls of parts."""

MOST_ARGUMENTS = 4
# What may stand in a plain line besides whole calls.
PLAIN_KINDS = ("number", "name", "plus", "less", "pick", "let")


class WholeCall:
    """A call of a part with all its arguments.

    `callee` is the part's name, `calls` are the nodes of the calls, the outermost first,
    `head` that of the NAME, `given` those of the arguments, the first one first.
    """

    def __init__(self, head, calls):
        self.head = head
        self.callee = head.sign
        self.calls = calls
        self.given = [call.within[1] for call in reversed(calls)]


class Plain:
    """A plain program: the `heads` of its parts, which are their funs, the outermost first;
    of each line its `own` E; and by the PLACES of their outermost calls all its `wholes`.
    """

    def __init__(self, program, heads):
        self.heads = heads
        self.own = {name: heads[name][-1].within[0] for name in heads}
        self.own["run"] = program.nodes[("run", 1)]
        self.wholes = {}

    def takes(self, name):
        """Whether the own E of a line is plain; its whole calls are found on the way."""
        waiting = [self.own[name]]
        while waiting:
            node = waiting.pop()
            if node.kind in PLAIN_KINDS:
                waiting.extend(node.within)
                continue
            found = whole_call(node)
            if found is None or len(found.calls) != len(self.heads[found.callee]):
                return False
            self.wholes[node.place] = found
            waiting.extend(found.given)
        return True


def plain_of(program):
    """The Plain of a Program; None if it is not plain."""
    heads = {name: funs_from(program.nodes[(name, 2)]) for name in program.parts}
    if any([len(heads[name]) > MOST_ARGUMENTS for name in heads]):
        return None
    plain = Plain(program, heads)
    return plain if all([plain.takes(name) for name in plain.own]) else None


def funs_from(node):
    """The funs one straight within the other, from node on."""
    funs = []
    while node.kind == "fun":
        funs.append(node)
        node = node.within[0]
    return funs


def whole_call(node):
    """What may be a WholeCall, by the calls straight within one another from node on; None if it is none."""
    calls = []
    while node.kind == "call":
        calls.append(node)
        node = node.within[0]
    return WholeCall(node, calls) if calls and node.kind == "part" else None
