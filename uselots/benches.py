"""A bench: a program run, stopped, changed and gone on with, while what was learnt stays in a book."""

from uselots.asking import asked
from uselots.binding import way_without
from uselots.books import Book, joined, whole
from uselots.errors import (
    Amid,
    BadExpression,
    BadPiece,
    BadProgram,
    Endless,
    Lacks,
    NoBlock,
    NotEnded,
    NothingToRedo,
    NothingToUndo,
    NotPlain,
    NotWatched,
    Ring,
    StuckAt,
    TooMany,
    Watched,
    Wide,
)
from uselots.exchanges import exchanged_run
from uselots.kinds import is_integer, is_row, is_text
from uselots.pieces import pieces
from uselots.runs import MOST_STEPS, Run
from uselots.stands import Block, Deed, Stand, Undone
from uselots.tasks import place_text, way_text
from uselots.texts import Program, joined_text, parts_text

MOST_ASKS = 2000
WIDEST_RUN = 20000


class Bench:
    """A bench with the program of a text and a way: a run without a step, an empty book.

    `latest` is the last deed that stands, `undone` the last one that was taken back,
    `innermost` the block that was entered last.
    """

    def __init__(self, text, way):
        program = Program(text)
        run = Run(program, way)
        self._begun = (text, way)
        self.latest = Deed("", Stand(run, way, empty_book(program, way)), None)
        self.undone = None
        self.innermost = None

    @property
    def program(self):
        return self.latest.stand.run.program

    @property
    def way(self):
        return self.latest.stand.its_way

    @property
    def watched(self):
        """The PLACES that are watched."""
        return self.latest.stand.seen

    @property
    def deeds(self):
        """How many deeds stand."""
        return self.latest.many

    def __len__(self):
        return len(range(self.latest.stand.done))

    def __contains__(self, value):
        # As one of these PLACES True would count as 1, so the kinds are tested first.
        if not is_row(value, 2) or not is_text(value[0]) or not is_integer(value[1]):
            return False
        return value in self.latest.stand.seen

    def __eq__(self, other):
        return isinstance(other, Bench) and self.history() == other.history()

    def history(self):
        """The text and the way of which the bench was made, and the lines of all deeds that stand, in sequence."""
        lines = []
        deed = self.latest
        while deed.ahead is not None:
            lines.append(deed.written)
            deed = deed.ahead
        return (*self._begun, lines[::-1])

    def live_run(self):
        """The Run itself, brought to where it stands."""
        stand = self.latest.stand
        if len(stand.run) > stand.done:
            stand.run.back(len(stand.run) - stand.done)
        while len(stand.run) < stand.done:
            stand.run.go(min(stand.done - len(stand.run), MOST_STEPS))
        return stand.run

    def go(self, most):
        """Does as many steps as there are, at most so many, and returns how many it did."""
        run = self.live_run()
        many = run.go(most)
        self._move(f"go {most}", run)
        return many

    def back(self, many):
        """Takes the last so many steps back, no farther than to the last exchange of a line."""
        run = self.live_run()
        run.back(many)
        self._move(f"back {many}", run)

    def line(self, name, line):
        """Goes on with another line for a part."""
        newer = exchanged_run(self.live_run(), name, line)
        stand = self.latest.stand.twin()
        stand.run = newer
        stand.its_way = way_without(stand.its_way, name)
        stand.library = book_without(stand.library, newer.program, stand.its_way, name)
        stand.forget(name)
        stand.amid = True
        self._do(f"line {name} {line}", stand)

    def expression(self, text):
        """Begins a run of another expression."""
        try:
            program = joined_text(parts_text(self.program), text)
        except BadProgram:
            raise BadExpression(text) from None
        stand = self.latest.stand.twin()
        stand.begin(program, way_without(stand.its_way, "run"))
        stand.forget("run")
        self._do(f"expression {text}", stand)

    def bind(self, way):
        """Begins a run by another way."""
        stand = self.latest.stand.twin()
        stand.begin(self.program, way)
        stand.library = empty_book(self.program, way)
        stand.beside = {}
        self._do(f"bind {way_text(way)}", stand)

    def learn(self):
        """Keeps all pieces of the run, and returns how many of parts were new."""
        if self.latest.stand.amid:
            raise Amid(None)
        run = self.live_run()
        if run.end is None:
            raise NotEnded(len(run))
        kind, what = run.end
        if kind == "stuck":
            raise StuckAt(what)
        if len(run) > WIDEST_RUN:
            raise Wide(WIDEST_RUN)
        own, *others = pieces(run.program, run.way, len(run))
        stand = self.latest.stand.twin()
        stand.library = joined(stand.library, stand.library)
        many = stand.library.keep_all(others)
        stand.beside = {**stand.beside, expression_of(run.program): own}
        self._do("learn", stand)
        return many

    def watch(self, place):
        """Watches a PLACE."""
        self.program.word(place)
        if place in self:
            raise Watched(place)
        stand = self.latest.stand.twin()
        stand.seen = (*stand.seen, place)
        self._do(f"watch {place_text(place)}", stand)

    def unwatch(self, place):
        """Watches a PLACE no more."""
        self.program.word(place)
        if place not in self:
            raise NotWatched(place)
        stand = self.latest.stand.twin()
        stand.seen = tuple([other for other in stand.seen if other != place])
        self._do(f"unwatch {place_text(place)}", stand)

    def _move(self, written, run):
        stand = self.latest.stand.twin()
        stand.done = len(run)
        self._do(written, stand)

    def _do(self, written, stand):
        self.latest = Deed(written, stand, self.latest)
        self.undone = None

    def run_now(self):
        """A Run by itself that stands as this one's."""
        return self.live_run().copy()

    def book_now(self):
        """A Book by itself of the same pieces."""
        library = self.latest.stand.library
        return joined(library, library)

    def next_place(self):
        """The PLACE of the next step, None behind the end."""
        return self.live_run().next

    def signs(self):
        """(PLACE, times) for the watched PLACES, in sequence: how many steps of the run were of it."""
        counts = {}
        for place in self.live_run().places:
            counts[place] = counts.get(place, 0) + 1
        return tuple([(place, counts.get(place, 0)) for place in self.program.places if place in self])

    def known(self):
        """How many steps the whole run takes to its value, None if nothing tells it."""
        stand = self.latest.stand
        if stand.amid:
            return None
        end = self.live_run().end
        if end is not None and end[0] != "stuck":
            return len(self)
        steps = asked_steps(self.program, stand.its_way)
        return whole_steps(stand, self.program) if steps is None else steps

    def undo(self):
        """Takes the last deed back that stands."""
        if self.latest.ahead is None:
            raise NothingToUndo(None)
        self.undone = Undone(self.latest, self.undone)
        self.latest = self.latest.ahead

    def redo(self):
        """Does the deed again that was taken back last."""
        if self.undone is None:
            raise NothingToRedo(None)
        self.latest = self.undone.deed
        self.undone = self.undone.others

    def block(self):
        """What a with statement enters: behind it the bench is as it was, unless keep was called in it."""
        return Block(self)

    def keep(self):
        """Keeps what is done in the innermost block."""
        innermost = self.innermost
        if innermost is None:
            raise NoBlock(None)
        innermost.kept = True

    def tried(self, look, *, keep=False):
        """What look returns of the bench; what it does there is kept if keep is True."""
        with self.block():
            told = look(self)
            if keep is True:
                self.keep()
        return told

    def copy(self):
        """An equal bench by itself, outside of all blocks."""
        text, way = self._begun
        twin = Bench(text, way)
        stand = self.latest.stand.twin()
        # The run goes on with either of them: one for each saves going to and fro.
        stand.run = self.run_now()
        twin.latest = Deed(self.latest.written, stand, self.latest.ahead)
        twin.undone = self.undone
        return twin


def empty_book(program, way):
    """The Book of a program's parts, without the way's changes in the line run."""
    return Book(parts_text(program), way_without(way, "run"))


def book_without(library, program, way, name):
    """The Book of a program's parts, with the pieces of another one but those of this part and what leads to it."""
    leading = {name: True}
    many = 0
    while many < len(leading):
        many = len(leading)
        for node in list(program.nodes.values()):
            if node.kind == "part" and node.sign in leading:
                leading[node.place[0]] = True
    newer = empty_book(program, way)
    newer.keep_all([piece for piece in library.pieces if piece[0] not in leading])
    return newer


def expression_of(program):
    """The text of the E that is run."""
    return program.line("run").removeprefix("run ")


def asked_steps(program, way):
    """How many steps the run takes, as asked tells it; None if it does not."""
    try:
        return asked(program, way, MOST_ASKS).steps
    except (NotPlain, Endless, TooMany):
        return None


def whole_steps(stand, program):
    """How many steps the run takes, as the Book and the piece that is kept beside tell it; None if they do not."""
    expression = expression_of(program)
    if expression not in stand.beside:
        return None
    try:
        _, steps = whole(stand.library, expression, stand.beside[expression])
    except (BadPiece, Ring, Lacks):
        return None
    return steps
