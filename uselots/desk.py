"""A desk: a bench at which lines of words are done."""

from uselots.errors import BadTask
from uselots.journals import read_journal
from uselots.kinds import is_text
from uselots.tasks import deed_in, do_deed, place_text

PARTED = " ; "


class Desk:
    """A desk at the bench of a journal."""

    def __init__(self, text):
        self.bench = read_journal(text)

    def say(self, line):
        """Does what a line tells, and returns the answer."""
        if not is_text(line) or "\n" in line:
            raise BadTask(line)
        if line in LOOKS:
            look = LOOKS[line]
            return look(self.bench)
        deed = deed_in(line)
        if deed is None:
            raise BadTask(line)
        answer = do_deed(self.bench, deed)
        return "done" if answer is None else answer


def say_undo(bench):
    bench.undo()
    return "done"


def say_redo(bench):
    bench.redo()
    return "done"


def say_next(bench):
    place = bench.next_place()
    return "-" if place is None else place_text(place)


def say_steps(bench):
    return str(len(bench))


def say_pieces(bench):
    return str(len(bench.book_now()))


def say_end(bench):
    end = bench.live_run().end
    return "-" if end is None else state_text(end)


def say_sight(bench):
    return parted([f"{name} {state_text(state)}" for name, state in bench.live_run().sight()])


def say_signs(bench):
    return parted([f"{place_text(place)} {many}" for place, many in bench.signs()])


def say_known(bench):
    steps = bench.known()
    return "-" if steps is None else str(steps)


LOOKS = {
    "undo": say_undo,
    "redo": say_redo,
    "next": say_next,
    "steps": say_steps,
    "pieces": say_pieces,
    "end": say_end,
    "sight": say_sight,
    "signs": say_signs,
    "known": say_known,
}


def state_text(state):
    """A kind and what comes with it: a number, or a PLACE."""
    kind, what = state
    return f"{kind} {what}" if kind == "number" else f"{kind} {place_text(what)}"


def parted(texts):
    return PARTED.join(texts) if texts else "none"
