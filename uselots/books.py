"""Books of pieces: what a program takes that was never run, put together out of what runs of others tell."""

from uselots.binding import binding_words
from uselots.calls import is_call
from uselots.checks import check_most, check_program, check_way
from uselots.descents import Descent
from uselots.drafts import plain_piece
from uselots.errors import BadPiece, Lacks, NoPiece, NotPlain, OtherParts, Quarrel
from uselots.kinds import is_row, is_text
from uselots.pieces import is_piece, pieces_of
from uselots.plain import plain_of
from uselots.scenes import Scene
from uselots.tallies import Answer, Tally
from uselots.texts import joined_text, parts_text
from uselots.traces import MOST, finished


class Book:
    """A book of PIECES of these parts' lines, by a way, at first without any."""

    def __init__(self, parts, way):
        program = joined_text(parts, "0")
        check_way(program, way)
        self._program = program
        self._written = parts
        self._way = way
        # By name, then by CALL: a name and a CALL in one would nest too deep for a key.
        self._kept = {name: {} for name in program.parts}

    @property
    def parts(self):
        """The text of the parts' lines."""
        return self._written

    @property
    def way(self):
        return self._way

    @property
    def pieces(self):
        """All PIECES, names in sequence of their lines, those of one name ascending."""
        return tuple([piece for name in self._kept for piece in self.pieces_named(name)])

    def __len__(self):
        return len([call for name in self._kept for call in self._kept[name]])

    def __contains__(self, value):
        if not is_row(value, 2) or not is_text(value[0]) or not is_call(value[1]):
            return False
        return self.kept_piece(value[0], value[1]) is not None

    def __eq__(self, other):
        if not isinstance(other, Book) or self._written != other._written or self._way != other._way:
            return False
        return self.pieces == other.pieces

    def put(self, piece):
        """Keeps a PIECE of a part; tells whether it was not there."""
        if not is_piece(self._program, self._way, piece) or piece[0] == "run":
            raise BadPiece(piece)
        return self.keep_all([piece]) == 1

    def learn(self, program, most):
        """Keeps all PIECES of parts that the program's run has; tells how many were not there."""
        check_program(program)
        if parts_text(program) != self._written:
            raise OtherParts(program)
        check_most(most, MOST)
        return self.keep_all(pieces_of(program, self._way, finished(program, self._way, most))[1:])

    def drop(self, name, call):
        """Forgets the PIECE of a CALL."""
        if (name, call) not in self:
            raise NoPiece((name, call))
        del self._kept[name][call]

    def piece(self, name, call):
        """The PIECE of a CALL."""
        if (name, call) not in self:
            raise NoPiece((name, call))
        return self._kept[name][call]

    def pieces_named(self, name):
        """All PIECES of one name, ascending."""
        return sorted(list(self._kept[name].values()))

    def kept_piece(self, name, call):
        """The PIECE of what surely is a CALL; None if it is not there."""
        return self._kept.get(name, {}).get(call)

    def keep_all(self, found):
        """Keeps what surely are PIECES of parts, all of them or none: Quarrel; tells how many were not there."""
        for piece in found:
            kept = self.kept_piece(piece[0], piece[1])
            if kept is not None and kept != piece:
                raise Quarrel((piece[0], piece[1]))
        many = len(self)
        for piece in found:
            self._kept[piece[0]][piece[1]] = piece
        return len(self) - many


def descent_from(book, name, call):
    """The Descent from the piece of a CALL: NoPiece, Ring, Lacks."""
    return Descent(book, joined_text(book.parts, "0"), book.piece(name, call))


def size(book, name, call):
    """How many steps one such call takes, with all that it requests."""
    return descent_from(book, name, call).many_rows()


def times(book, name, call):
    """(PLACE, times) for the steps that one such call takes, with all that it requests."""
    descent = descent_from(book, name, call)
    counts = {}
    for piece, many in zip(descent.found, descent.totals()):
        for place, _, _ in piece[3]:
            counts[place] = counts.get(place, 0) + many
    return tuple([(place, counts[place]) for place in descent.base.places if place in counts])


def needs(book, name, call):
    """((name, CALL), times) for all calls that one such call makes in all, itself too."""
    descent = descent_from(book, name, call)
    names = descent.base.parts
    told = [(names.index(piece[0]), piece[1], many) for piece, many in zip(descent.found, descent.totals())]
    return tuple([((names[at], its), many) for at, its, many in sorted(told)])


def least(book, name, call):
    """The Book of just the pieces that one such call needs."""
    descent = descent_from(book, name, call)
    own = Book(book.parts, book.way)
    own.keep_all(descent.found)
    return own


def joined(one, other):
    """The Book of the pieces of both."""
    if one.parts != other.parts or one.way != other.way:
        raise OtherParts(other)
    both = Book(one.parts, one.way)
    both.keep_all(one.pieces)
    both.keep_all(other.pieces)
    return both


def whole(book, expression, piece):
    """(KIND, steps) of the run of an expression whose PIECE this is."""
    program = joined_text(book.parts, expression)
    if not is_piece(program, book.way, piece) or piece[0] != "run":
        raise BadPiece(piece)
    return whole_of(book, program, piece)


def whole_of(book, program, piece):
    """The same of what is the PIECE of a program's run: Ring, Lacks."""
    table, _, use = piece[1]
    held = table[use]
    kind = held if held[0] == "number" else (held[0],)
    return kind, Descent(book, program, piece).many_rows()


def settled(book, expression):
    """(KIND, steps, PIECE) of the run of a plain expression, all its calls told by pieces."""
    program = joined_text(book.parts, expression)
    plain = plain_of(program)
    if plain is None:
        raise NotPlain(program)
    scene = Scene(plain, "run", ())
    answers = {}
    wanted = scene.go_on(answers)
    while wanted is not None:
        answers[wanted] = answer_in(book, wanted)
        wanted = scene.go_on(answers)
    tally = Tally(scene, binding_words(program, book.way), answers)
    piece = plain_piece("run", [], Answer(scene.worths[scene.root.place], tally.cost, (), scene, tally))
    kind, steps = whole_of(book, program, piece)
    return kind, steps, piece


def answer_in(book, wanted):
    """The Answer of an ask as the first piece that fits tells it: Lacks."""
    name, numbers = wanted
    for piece in book.pieces_named(name):
        told = fitting(piece[1], numbers)
        if told is not None:
            return told
    raise Lacks(wanted)


def fitting(call, numbers):
    """The Answer that a CALL tells for a whole call with these numbers; None if it does not fit."""
    table, looks, use = call
    counts = []
    for at, number in enumerate(numbers):
        if at > 0:
            if table[use][0] != "function" or len(table[use][1]) != 1:
                return None
            (looks, use), many = table[use][1][0]
            if many != 1:
                return None
        if looks and (len(looks) > 1 or table[looks[0][0]] != ("number", number)):
            return None
        counts.append(looks[0][1] if looks else 0)
    # Steps are told by the pieces themselves.
    return Answer(table[use][1], 0, tuple(counts), None, None) if table[use][0] == "number" else None
