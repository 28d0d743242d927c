"""The step with some number of a plain program's run by value, found without running."""

from uselots.workers import RUN


def spot(plain, answers, number):
    """(PLACE, asks) of a step of the run: where it is, and the asks that are open there, the newest first."""
    opened = []
    answer = answers[RUN]
    kind, what, rest = "node", plain.own["run"], number
    while kind != "place":
        if kind == "ask":
            opened.append(what)
            answer = answers[what]
            what = plain.own[what[0]]
        kind, what, rest = stretch_at(stretches(plain, answers, answer, what), rest)
    return what, tuple(reversed(opened))


def stretch_at(told, number):
    """Kind and what of the stretch that has the step with this number, and this step's number in it."""
    rest = number
    for many, kind, what in told:
        if rest < many:
            return kind, what, rest
        rest = rest - many
    return None


def stretches(plain, answers, answer, node):
    """The steps of a node in sequence, as (how many, kind, what): one of a place, or all of a node or of an ask's E."""
    scene, spans = answer.scene, answer.tally.spans
    if node.kind != "call":
        return [(1, "place", node.place)] + [(spans[inner.place], "node", inner) for inner in scene.wanted(node)]
    found = plain.wholes[node.place]
    told = [(1, "place", call.place) for call in found.calls]
    told.append((1, "place", found.head.place))
    further = plain.heads[found.callee][1:]
    for at, inner in enumerate(found.given):
        told.append((spans[inner.place], "node", inner))
        # Behind an argument stands the fun that is called with the next one, behind the last one the ask's own E.
        if at < len(further):
            told.append((1, "place", further[at].place))
    wanted = scene.ask_at(node)
    told.append((answers[wanted].cost - len(further), "ask", wanted))
    return told
