"""Point 10, all that is told of books; point 3 (e)."""

import itertools
import random
import unittest
from unittest import mock

from helpers import Refusals, any_values, refused
from pieces_by_hand import call_of, handed
from plains import plains_and_ways
from programs import PROGRAMS, programs_and_ways
from samples import WORDS, sample_ways, siblings, without
from uselots import usage
from uselots.asking import asked
from uselots.books import Book, joined, least, needs, settled, size, times, whole
from uselots.errors import (BadMost, BadPiece, BadProgram, BadWay, Endless, Lacks, NoPiece, NoProgram, NotEnded,
                            NotPlain, OtherParts, Quarrel, Ring, StuckAt, TooMany, Wide)
from uselots.papers import paper
from uselots.pieces import is_piece, pieces, requests
from uselots.runs import ended
from uselots.texts import Program, joined_text, parts_text

MOST = 300
PARTS = "part twice fun x plus x x\npart four fun y call twice call twice y"
FOUR = joined_text(PARTS, "call four 1")
# By hand each of these may be called for anything: none of them ever ends.
ROUND = "part ping fun x call pong x\npart pong fun x call ping x\npart pang fun x call pong x"


def ending(many):
    """Programs and ways without changes in the run's line by which they end with a value."""
    for program, way in programs_and_ways(many):
        way = without(way, "run")
        try:
            yield program, way, pieces(program, way, MOST)
        except (NotEnded, StuckAt):
            pass


def filled(program, way):
    book = Book(parts_text(program), way)
    book.learn(program, MOST)
    return book


class Made(Refusals, unittest.TestCase):
    def test_an_empty_book(self):
        for parts in ("", PARTS, "part f fun x x"):
            for way in WORDS:
                book = Book(parts, way)
                self.assertEqual([book.parts, book.way, book.pieces, len(book)], [parts, way, (), 0])
        book = Book(way=("need", ((("four", 4), "name"),)), parts=PARTS)
        self.assertEqual(book.way, ("need", ((("four", 4), "name"),)))

    def test_bad_program(self):
        for value in any_values():
            if type(value) is not str:
                self.assert_refused_equal(BadProgram, 0, Book, value, "need")
        lines = [("part", 1), ("part f fun x", 1), ("part f fun x x\n", 2), ("run 5", 2), ("part f fun x g", 1),
                 ("part f fun x x\npart f fun y y", 2), ("part f fun x x\nrun 1", 3), ("\n", 1), ("x", 1)]
        for parts, number in lines:
            self.assert_refused_equal(BadProgram, number, Book, parts, None)
            self.assertEqual(refused(joined_text, parts, "0"), (BadProgram, number))

    def test_bad_way(self):
        for value in any_values() + ["Name", ("need", ()), ("need", ((("run", 1), "name"),)),
                                     ("need", ((("twice", 4), "name"),)), ("need", ((("four", 4), "need"),))]:
            if value not in WORDS:
                self.assert_refused(BadWay, value, Book, PARTS, value)


class Put(Refusals, unittest.TestCase):
    def test_by_put_by_learn_and_by_both(self):
        lot = random.Random(1)
        for program, way, told in ending(60):
            one, other = Book(parts_text(program), way), Book(parts_text(program), way)
            self.assertEqual(one.learn(program, MOST), len(told) - 1)
            self.assertEqual([len(one), one.pieces], [len(told) - 1, told[1:]])
            for piece in lot.sample(told[1:], len(told) - 1):
                self.assertIs(other.put(piece), True)
                self.assertIs(other.put(piece), False)
            self.assertEqual([other.pieces, other == one], [told[1:], True])
            both = Book(parts_text(program), way)
            some = told[1:][::2]
            self.assertTrue(all([both.put(piece) for piece in some]))
            self.assertEqual([both.learn(program, MOST), both.learn(program, MOST)], [len(told) - 1 - len(some), 0])
            self.assertTrue(both == one)

    def test_the_sequence_of_pieces(self):
        program = joined_text("part z fun x plus x 1\npart a fun x call z x", "plus call a 2 plus call z 1 call a 1")
        told = pieces(program, "need", 99)[1:]
        for some in itertools.permutations(told):
            book = Book(parts_text(program), "need")
            for piece in some:
                book.put(piece)
            self.assertEqual(book.pieces, told)
        self.assertEqual([piece[0] for piece in told], ["z", "z", "a", "a"])

    def test_bad_piece(self):
        run_piece, *others = pieces(FOUR, "need", 99)
        by_name = pieces(FOUR, "name", 99)
        book = Book(PARTS, "need")
        bent = others[0][:3] + (others[0][3][:1] + others[0][3][:0:-1],)
        lists = [others[0][:3] + (list(others[0][3]),), list(others[0])]
        bools = ("twice", (others[0][1][0], others[0][1][1], True), *others[0][2:])
        for value in any_values() + [run_piece, bent, bools, FOUR, book] + lists:
            self.assert_refused(BadPiece, value, book.put, value)
            self.assertEqual(len(book), 0)
        for piece in by_name:
            if piece not in others:
                self.assert_refused(BadPiece, piece, book.put, piece)
        self.assertEqual(len(book), 0)
        # The line run of the book's own program is no part's either.
        empty_run = pieces(joined_text(PARTS, "0"), "need", 9)[0]
        self.assert_refused(BadPiece, empty_run, book.put, empty_run)
        elsewhere = pieces(joined_text("part twice fun x plus x 0", "call twice 1"), "need", 99)[1]
        self.assert_refused(BadPiece, elsewhere, book.put, elsewhere)

    def test_quarrel(self):
        book = Book(ROUND, "need")
        one, other = handed("ping", "pong", 1, 1, 5), handed("ping", "pong", 1, 2, 5)
        self.assertEqual(one[:2], other[:2])
        self.assertIs(book.put(one), True)
        self.assert_refused_equal(Quarrel, one[:2], book.put, other)
        self.assertEqual([book.pieces, book.put(one)], [(one,), False])
        book.drop(*one[:2])
        self.assertEqual([book.put(piece=other), book.pieces], [True, (other,)])

    def test_learn_with_a_quarrel(self):
        """The first one in sequence; then none is kept."""
        parts = "part c fun x 5\npart b fun x call c x\npart a fun x call b x"
        program = joined_text(parts, "plus call a 1 call b 2")
        own = pieces(program, "need", 99)[1:]
        self.assertEqual([piece[0] for piece in own], ["c", "b", "a"])
        # By need nothing of the argument is looked at: so all of b's calls are alike.
        otherwise = {name: handed(name, other, 7, 0, 5) for name, other in (("b", "c"), ("a", "b"))}
        self.assertEqual([otherwise["b"], otherwise["a"]], list(own[1:]))
        twice = joined_text("part c fun x plus x x\npart b fun x call c x\npart a fun x call b x", "call a 1")
        run_piece, of_c, of_b, of_a = pieces(twice, "need", 99)
        for name, there in (("b", of_b), ("a", of_a)):
            book = Book(parts_text(twice), "need")
            other = handed(name, {"b": "c", "a": "b"}[name], 1, 3 if name == "b" else 2, 2)
            self.assertEqual(other[:2], there[:2])
            book.put(other)
            self.assert_refused_equal(Quarrel, there[:2], book.learn, twice, 99)
            self.assertEqual(book.pieces, (other,))
        book = Book(parts_text(twice), "need")
        book.put(handed("b", "c", 1, 3, 2))
        book.put(handed("a", "b", 1, 2, 2))
        self.assert_refused_equal(Quarrel, of_b[:2], book.learn, twice, 99)
        self.assertEqual(len(book), 2)

    def test_learn_refuses(self):
        book = Book(PARTS, "need")
        for value in any_values():
            if not isinstance(value, Program):
                self.assert_refused(NoProgram, value, book.learn, value, None)
        swapped = "\n".join(reversed(PARTS.split("\n")))
        for parts in ("", swapped, PARTS + "\npart more fun x x", PARTS.replace("plus x x", "plus x 1"),
                      PARTS.replace("x", "z")):
            program = joined_text(parts, "5")
            self.assert_refused(OtherParts, program, book.learn, program, None)
        for value in any_values() + [0, -1, 20001, 100000]:
            if type(value) is not int or not 1 <= value <= 20000:
                self.assert_refused(BadMost, value, book.learn, FOUR, value)
        many = len(ended(FOUR, "need", 99))
        self.assert_refused_equal(NotEnded, many - 1, book.learn, FOUR, many - 1)
        stuck = joined_text(PARTS, "plus call twice 1 call 2 3")
        self.assert_refused_equal(StuckAt, ("run", 5), book.learn, stuck, 99)
        self.assertEqual(book, Book(PARTS, "need"))
        table, _ = paper(FOUR, "need", 99)
        wide = sum(len(lot) + sum(len(asked[0]) for asked, _ in lot) for kind, lot in table if kind == "function")
        with mock.patch.object(usage, "WIDEST", wide - 1):
            self.assert_refused_equal(Wide, wide - 1, book.learn, FOUR, 99)
        with mock.patch.object(usage, "WIDEST", wide):
            self.assertEqual(book.learn(program=FOUR, most=many), 3)

    def test_learn_by_the_books_way(self):
        for way in WORDS + (("need", ((("four", 4), "name"),)),):
            book = Book(PARTS, way)
            book.learn(FOUR, 99)
            self.assertEqual(book.pieces, pieces(FOUR, way, 99)[1:])


class There(Refusals, unittest.TestCase):
    def setUp(self):
        self.book = filled(FOUR, "need")
        self.one = self.book.pieces[0]

    def test_in(self):
        name, call = self.one[:2]
        self.assertIs((name, call) in self.book, True)
        self.assertTrue(all(piece[:2] in self.book for piece in self.book.pieces))
        table, looks, use = call
        others = [("four", call), (name, (table, looks, 0)), (name, (table, looks, True)), [name, call],
                  (name, list(call)), (name, (list(table), looks, use)), (name, (table, [list(one) for one in looks], use)),
                  (name, (table, ((looks[0][0], True),), use)), (name, call, 1), self.one, self.book, name, call,
                  ("run", call), ("nobody", call), (None, call), ([], call), (name, ({}, looks, use))]
        for value in any_values() + others:
            self.assertIs(value in self.book, False, value)
        self.assertIs(("run", pieces(FOUR, "need", 99)[0][1]) in self.book, False)

    def test_piece_and_drop(self):
        told = self.book.pieces
        for piece in told:
            self.assertEqual(self.book.piece(*piece[:2]), piece)
        self.assertIsNone(self.book.drop(name=told[1][0], call=told[1][1]))
        self.assertEqual(self.book.pieces, told[:1] + told[2:])
        self.assertIs(told[1][:2] in self.book, False)
        self.assert_refused_equal(NoPiece, told[1][:2], self.book.piece, *told[1][:2])
        self.assert_refused_equal(NoPiece, told[1][:2], self.book.drop, *told[1][:2])
        self.assertIs(self.book.put(told[1]), True)
        self.assertEqual(self.book.pieces, told)

    def test_no_piece(self):
        call = self.one[1]
        for name, its in [("run", call), ("nobody", call), (None, call), (1, 2), ("twice", (call[0], call[1], True)),
                          ("twice", list(call)), ([], {}), ("twice", None), ("four", call)]:
            for function in (self.book.piece, self.book.drop):
                self.assert_refused_equal(NoPiece, (name, its), function, name, its)
            for function in (size, times, needs, least):
                self.assert_refused_equal(NoPiece, (name, its), function, self.book, name, its)
        self.assertEqual(len(self.book), 3)

    def test_equality(self):
        other = filled(FOUR, "need")
        self.assertTrue(self.book == other and not self.book != other)
        other.drop(*self.one[:2])
        self.assertTrue(self.book != other)
        self.assertNotEqual(Book("", "need"), Book("", "name"))
        self.assertNotEqual(Book("", "need"), Book("part f fun x x", "need"))
        for value in any_values() + [self.book.pieces]:
            self.assertFalse(self.book == value)
            self.assertTrue(self.book != value)


class Down(Refusals, unittest.TestCase):
    def test_beside_runs(self):
        """What all calls of a run take, put together with its own line, is the run."""
        many = 0
        for program, way, told in ending(150):
            book = filled(program, way)
            run = ended(program, way, MOST)
            own = told[0]
            counts, steps = {}, len(own[3])
            for place, _, _ in own[3]:
                counts[place] = counts.get(place, 0) + 1
            for (name, call), often in requests(program, way, own):
                steps += often * size(book, name, call)
                for place, number in times(book, name, call):
                    counts[place] = counts.get(place, 0) + often * number
            self.assertEqual(steps, len(run))
            self.assertEqual(counts, {place: run.places.count(place) for place in set(run.places)})
            table, _, use = own[1]
            kind = table[use] if table[use][0] == "number" else table[use][:1]
            self.assertEqual(whole(book, program.line("run")[4:], own), (kind, len(run)))
            many += len(told) > 3
        self.assertGreater(many, 40)

    def test_needs_and_times_beside_a_recursion(self):
        for program, way, told in ending(100):
            book = filled(program, way)
            numbers = {name: at for at, name in enumerate(program.parts)}

            def all_of(name, call):
                found = {(name, call): 1}
                for asked, often in requests(program, way, book.piece(name, call)):
                    for its, number in all_of(*asked).items():
                        found[its] = found.get(its, 0) + often * number
                return found

            for piece in told[1:]:
                by_hand = all_of(*piece[:2])
                told_so = tuple(sorted(by_hand.items(), key=lambda row: (numbers[row[0][0]], row[0][1])))
                self.assertEqual(needs(book, *piece[:2]), told_so)
                self.assertEqual(size(book, *piece[:2]), sum(len(book.piece(*its)[3]) * often for its, often in told_so))
                self.assertEqual(sum(often for _, often in times(book, *piece[:2])), size(book, *piece[:2]))
                places = [place for place, _ in times(book, *piece[:2])]
                self.assertEqual(places, [place for place in program.places if place in places])
                small = least(book, *piece[:2])
                self.assertEqual(small.pieces, tuple(its for its in book.pieces if its[:2] in by_hand))
                self.assertEqual([small.parts, small.way], [book.parts, book.way])
                self.assertEqual(size(small, *piece[:2]), size(book, *piece[:2]))
                self.assertEqual(least(small, *piece[:2]), small)

    def test_several_ways_down(self):
        parts = "part a fun x plus x 1\npart b fun x plus call a x call a x\npart c fun x plus call b x call a x"
        program = joined_text(parts, "call c 1")
        book = filled(program, "need")
        (_, of_a), (_, of_b), (_, of_c) = [piece[:2] for piece in book.pieces]
        self.assertEqual(needs(book, "c", of_c), ((("a", of_a), 3), (("b", of_b), 1), (("c", of_c), 1)))
        self.assertEqual([size(book, *piece[:2]) for piece in book.pieces], [3, 13, 23])
        self.assertEqual(size(call=of_c, name="c", book=book), 23)
        self.assertEqual(times(name="c", book=book, call=of_c)[:3], ((("a", 4), 3), (("a", 5), 3), (("a", 6), 3)))
        self.assertEqual([len(least(book, *piece[:2])) for piece in book.pieces], [1, 2, 3])

    def test_far_more_than_a_run_takes(self):
        lines = ["part p0 fun x plus x x"]
        lines += [f"part p{at} fun x call p{at - 1} call p{at - 1} call p{at - 1} x" for at in range(1, 12)]
        book = Book("\n".join(lines), "need")
        given = call_of(0, 2, 0)
        book.learn(joined_text("\n".join(lines), "call p3 0"), 20000)
        first = [piece for piece in book.pieces if piece[0] == "p0"]
        self.assertEqual([piece[1] for piece in first], [given])
        for at in range(4, 12):
            its = f"p{at}"
            below = [piece for piece in book.pieces if piece[0] == f"p{at - 1}"][0]
            above = (its,) + below[1:2] + below[2:3] + (tuple(((its, place[1]), use, under)
                                                             for place, use, under in below[3]),)
            self.assertIs(book.put(above), True)
        sizes = [size(book, piece[0], piece[1]) for piece in book.pieces]
        self.assertEqual(sizes[0], 3)
        for one, other in zip(sizes, sizes[1:]):
            self.assertEqual(other, 3 * one + 7)

    def test_lacks(self):
        of_four = filled(FOUR, "need").pieces[-1]
        order = [call for call, _ in requests(FOUR, "need", of_four)]
        self.assertEqual([name for name, _ in order], ["twice", "twice"])
        for lacking in (order[:1], order[1:], order):
            book = filled(FOUR, "need")
            for call in lacking:
                book.drop(*call)
            for function in (size, times, needs, least):
                self.assert_refused_equal(Lacks, lacking[0], function, book, *of_four[:2])
            self.assert_refused_equal(Lacks, lacking[0], whole, book, "call four 1", pieces(FOUR, "need", 99)[0])

    def test_the_first_one_met_lacks(self):
        """Down from the first request ahead of the second one."""
        parts = "part a fun x plus x 1\npart b fun x call a x\npart c fun x plus call b x call a 5"
        program = joined_text(parts, "call c 1")
        book = filled(program, "need")
        own = [piece for piece in book.pieces if piece[0] == "a"]
        of_c = [piece for piece in book.pieces if piece[0] == "c"][0]
        names = [call[0] for call, _ in requests(program, "need", of_c)]
        self.assertEqual(names, ["a", "b"])
        for piece in own:
            book.drop(*piece[:2])
        self.assertEqual(refused(size, book, *of_c[:2])[1], requests(program, "need", of_c)[0][0])
        book.put([piece for piece in own if piece[:2] == requests(program, "need", of_c)[0][0]][0])
        lacking = [piece for piece in own if piece[:2] != requests(program, "need", of_c)[0][0]][0]
        self.assert_refused_equal(Lacks, lacking[:2], size, book, *of_c[:2])

    def test_ring(self):
        book = Book(ROUND, "need")
        ping, pong = handed("ping", "pong", 1, 1, 5), handed("pong", "ping", 1, 1, 5)
        pang = handed("pang", "pong", 1, 1, 5)
        for piece in (ping, pong, pang):
            self.assertIs(book.put(piece), True)
        for function in (size, times, needs, least):
            self.assert_refused_equal(Ring, ping[:2], function, book, *ping[:2])
            self.assert_refused_equal(Ring, pong[:2], function, book, *pong[:2])
            self.assert_refused_equal(Ring, pong[:2], function, book, *pang[:2])
        program = joined_text(ROUND, "call pang 1")
        run_piece = ("run", (pang[1][0][1:], (), 0), pang[2],
                     ((("run", 1), pang[3][0][1], -1), (("run", 2), pang[3][1][1], 0), (("run", 3), pang[3][2][1], 0)))
        self.assertIs(is_piece(program, "need", run_piece), True)
        self.assert_refused_equal(Ring, pong[:2], whole, book, "call pang 1", run_piece)
        book.drop(*ping[:2])
        self.assert_refused_equal(Lacks, ping[:2], whole, book, "call pang 1", run_piece)
        # It is no ring that one call is met twice, if not down from itself.
        self.assert_refused_equal(Lacks, ping[:2], size, book, *pang[:2])

    def test_a_ring_by_unlike_calls_is_none(self):
        book = Book(ROUND, "need")
        book.put(handed("ping", "pong", 1, 2, 5))
        self.assertEqual(handed("ping", "pong", 1, 2, 5)[1], handed("pong", "ping", 1, 1, 5)[1])
        book.put(handed("pong", "ping", 1, 1, 5))
        self.assert_refused_equal(Lacks, ("pong", call_of(1, 2, 5)), size, book, "ping", call_of(1, 1, 5))


class Joined(Refusals, unittest.TestCase):
    def test_both_ways(self):
        for seed in range(60):
            programs = siblings(seed, 3)
            if len(programs) < 2:
                continue
            for way in WORDS:
                books = []
                for program in programs[:2]:
                    book = Book(parts_text(program), way)
                    if refused(book.learn, program, MOST) is None:
                        books.append(book)
                if len(books) == 2:
                    one, other = books
                    both = joined(one, other)
                    self.assertEqual(both, joined(one=other, other=one))
                    self.assertEqual(set(both.pieces), set(one.pieces) | set(other.pieces))
                    self.assertEqual([len(both), both.parts, both.way], [len(set(both.pieces)), one.parts, way])

    def test_other_parts(self):
        one = filled(FOUR, "need")
        for other in (Book("", "need"), Book(PARTS, "name"), Book("\n".join(reversed(PARTS.split("\n"))), "need")):
            self.assert_refused(OtherParts, other, joined, one, other)
            self.assert_refused(OtherParts, one, joined, other, one)
        self.assertEqual([joined(one, Book(PARTS, "need")), joined(Book(PARTS, "need"), one)], [one, one])

    def test_quarrel(self):
        one, other = Book(ROUND, "need"), Book(ROUND, "need")
        for name, their in (("pong", "ping"), ("ping", "pong")):
            one.put(handed(name, their, 1, 1, 5))
            other.put(handed(name, their, 1, 2, 5))
        other.put(handed("pang", "pong", 3, 1, 5))
        self.assert_refused_equal(Quarrel, ("ping", call_of(1, 1, 5)), joined, one, other)
        self.assert_refused_equal(Quarrel, ("ping", call_of(1, 1, 5)), joined, other, one)
        one.drop("ping", call_of(1, 1, 5))
        self.assert_refused_equal(Quarrel, ("pong", call_of(1, 1, 5)), joined, one, other)
        self.assertEqual([len(one), len(other)], [1, 3])
        # Neither book changes, nor does what was joined when one of both does.
        one.drop("pong", call_of(1, 1, 5))
        both = joined(one, other)
        other.drop("pang", call_of(3, 1, 5))
        self.assertEqual([len(both), len(one), len(other)], [3, 0, 2])


class Whole(Refusals, unittest.TestCase):
    def test_expressions_that_were_never_run(self):
        """A book of one run's pieces tells another run, or what lacks of it."""
        many = {True: 0, False: 0}
        for seed in range(120):
            programs = siblings(seed, 4)
            for way in WORDS + tuple(without(way, "run") for way in sample_ways(programs[0], seed) if way not in WORDS)[:1]:
                book = Book(parts_text(programs[0]), way)
                for program in programs[1:]:
                    refused(book.learn, program, MOST)
                try:
                    run_piece, *others = pieces(programs[0], way, MOST)
                except (NotEnded, StuckAt):
                    continue
                expression = programs[0].line("run")[4:]
                run = ended(programs[0], way, MOST)
                try:
                    kind, steps = whole(book, expression, run_piece)
                    self.assertEqual([kind[0], steps], [run.end[0], len(run)])
                    self.assertEqual(kind, run.end if kind[0] == "number" else run.end[:1])
                    many[True] += len(others) > 0
                except Lacks as error:
                    self.assertNotIn(error.value, book)
                    self.assertIn(error.value, [piece[:2] for piece in others])
                    many[False] += 1
        self.assertGreater(min(many.values()), 20)

    def test_kinds(self):
        for expression, kind in (("5", ("number", 5)), ("fun x x", ("function",)), ("twice", ("function",)),
                                 ("pair 1 2", ("pair",))):
            own = pieces(joined_text(PARTS, expression), "need", 9)[0]
            self.assertEqual(whole(Book(PARTS, "need"), expression, own), (kind, 1))
        own = pieces(FOUR, "need", 99)[0]
        self.assertEqual(whole(piece=own, expression="call four 1", book=filled(FOUR, "need")), (("number", 4), 14))

    def test_refused(self):
        book = filled(FOUR, "need")
        own = pieces(FOUR, "need", 99)[0]
        for value in any_values():
            if type(value) is not str:
                self.assert_refused_equal(BadProgram, 0, whole, book, value, None)
                self.assert_refused_equal(BadProgram, 0, settled, book, value)
        for expression in ("", "plus 1", "call five 1", "5\nrun 6", "let twice 1 2"):
            number = 4 if "\n" in expression else 3
            self.assertEqual(refused(whole, book, expression, None), (BadProgram, number))
            self.assertEqual(refused(settled, book, expression), (BadProgram, number))
        for value in any_values() + [pieces(FOUR, "need", 99)[1], book.pieces[0], pieces(FOUR, "name", 99)[1]]:
            self.assert_refused(BadPiece, value, whole, book, "call four 1", value)
        self.assert_refused(BadPiece, own, whole, book, "call four plus 0 1", own)


class Settled(Refusals, unittest.TestCase):
    PLAIN = ("part add fun x fun y plus x y\npart both fun x fun y pick x 1 y\npart dup fun x call call add x x\n"
             "part down fun n pick n 0 call down plus n -1\npart five fun x 5")

    def book(self, way, *expressions):
        book = Book(self.PLAIN, way)
        for expression in expressions:
            book.learn(joined_text(self.PLAIN, expression), 9999)
        return book

    def test_beside_runs(self):
        told = ["plus call dup 2 call dup 3", "call dup call dup 2", "let z call dup 1 plus z call call add z 3",
                "pick call down 3 call five 1 call five 2", "call call both 0 call down 2", "let z call dup 9 5",
                "call call both call down 1 call dup 4", "less call five 8 call call both 2 3", "7",
                "call call add call call add 1 2 call call add 3 4"]
        taught = ["plus call dup 1 plus call dup 2 plus call dup 3 plus call dup 4 call dup 9", "call down 3",
                  "plus call call add 1 2 plus call call add 3 4 plus call call add 3 7 call call add 2 3",
                  "plus call five 1 plus call call both 0 0 plus call call both 0 8 call call both 2 3"]
        ways = WORDS + (("need", ((("dup", 4), "name"), (("dup", 5), "value"))), ("name", ((("down", 7), "value"),)))
        for way in ways:
            book = self.book(way, *taught)
            for expression in told:
                program = joined_text(self.PLAIN, expression)
                run = ended(program, way, 9999)
                kind, steps, piece = settled(book, expression)
                self.assertEqual((kind, steps), (run.end, len(run)), (way, expression))
                self.assertEqual(piece, pieces(program, way, 9999)[0])
                self.assertEqual(whole(book, expression, piece), (kind, steps))

    def test_beside_asked(self):
        """A book of the pieces of all asks settles what was asked."""
        many = 0
        for program, way in plains_and_ways(150):
            try:
                told = asked(program, without(way, "run"), 60)
                book, own = told.book(), told.run_piece()
            except (Endless, TooMany, Wide):
                continue
            self.assertEqual(settled(book, program.line("run")[4:]), (told.end, told.steps, own))
            for name, call in [piece[:2] for piece in book.pieces[:2]]:
                fewer = joined(book, book)
                fewer.drop(name, call)
                kind = refused(settled, fewer, program.line("run")[4:])
                self.assertIn(kind if kind is None else kind[0], (None, Lacks))
            many += len(told.asks) > 2
        self.assertGreater(many, 150)

    def test_arguments_that_nobody_looks_at(self):
        """They are worked out all the same: their calls may lack."""
        book = self.book("need", "call five 1")
        self.assertEqual(settled(book, "call five 99")[:2], (("number", 5), 3))
        self.assertEqual(settled(book, "let z call five 3 4")[:2], (("number", 4), 2))
        self.assert_refused_equal(Lacks, ("down", (3,)), settled, book, "call five call down 3")
        self.assert_refused_equal(Lacks, ("dup", (8,)), settled, book, "let z call dup plus 1 7 4")
        self.assertEqual(len(ended(joined_text(self.PLAIN, "let z call dup plus 1 7 4"), "need", 99)), 2)

    def test_the_first_one_lacks(self):
        book = self.book("need", "call call add 1 1")
        self.assert_refused_equal(Lacks, ("dup", (1,)), settled, book, "plus call call add call dup 1 call down 2 call dup 7")
        self.assert_refused_equal(Lacks, ("add", (1, 2)), settled, book, "call call add 1 2")
        self.assert_refused_equal(Lacks, ("five", (2,)), settled, book, "call five call call add 1 1")
        self.assertEqual(settled(book, "pick 0 call call add 1 1 call five 2")[0], ("number", 2))
        self.assert_refused_equal(Lacks, ("five", (2,)), settled, book, "pick 1 call call add 1 1 call five 2")
        # Down from what fits the pieces may lack all the same, as whole meets it.
        book = self.book("need", "call dup 2")
        inner = [piece for piece in book.pieces if piece[0] == "add"][0]
        book.drop(*inner[:2])
        self.assert_refused_equal(Lacks, inner[:2], settled, book, "call dup 2")

    def test_what_fits(self):
        """One number alone, functions called just once, a number at the end; the first one as pieces has them."""
        book = Book(ROUND, "need")
        none = handed("ping", "pong", 1, 0, 5)
        self.assertEqual(none[1], ((("number", 5),), (), 0))
        book.put(none)
        book.put(handed("pong", "ping", 1, 0, 5))
        self.assert_refused_equal(Ring, none[:2], settled, book, "call ping 7")
        for come in (9, 3, 7):
            book.put(handed("ping", "pong", 1, 1, come))
        # 3 is told with the number 1 ahead of it, 5 alone: tables stand ascending.
        told = [piece[1] for piece in book.pieces if piece[0] == "ping"]
        self.assertEqual(told, sorted(told))
        self.assertEqual([table[use] for table, _, use in told], [("number", come) for come in (3, 7, 9, 5)])
        self.assert_refused_equal(Lacks, ("pong", call_of(1, 1, 3)), settled, book, "call ping 1")
        self.assert_refused_equal(Ring, none[:2], settled, book, "call ping 2")
        self.assert_refused_equal(Lacks, ("pang", (2,)), settled, book, "call pang 2")

    def test_pieces_that_do_not_fit(self):
        parts = "part add fun x fun y plus x y\npart keep fun x fun y x"
        book = Book(parts, "need")
        for expression in ("add", "call add 1", "let f call add 1 plus call f 2 call f 3", "call call add 2 2",
                           "let g call add 1 plus call g 2 call g 2"):
            book.learn(joined_text(parts, expression), 99)
        self.assertGreater(len(book), 3)
        self.assert_refused_equal(Lacks, ("add", (1, 2)), settled, book, "call call add 1 2")
        self.assertEqual(settled(book, "call call add 2 2")[0], ("number", 4))
        self.assert_refused_equal(Lacks, ("add", (2, 1)), settled, book, "call call add 2 1")
        pairs = Book("part two fun x pair x x\npart id fun x x", "need")
        pairs.learn(joined_text(pairs.parts, "call two 1"), 99)
        pairs.learn(joined_text(pairs.parts, "first call id pair 1 2"), 99)
        self.assertEqual(refused(settled, pairs, "5")[0], NotPlain)
        ids = Book("part id fun x x", "need")
        ids.learn(joined_text(ids.parts, "first call id pair 1 2"), 99)
        self.assert_refused_equal(Lacks, ("id", (1,)), settled, ids, "call id 1")

    def test_looks_at_several_numbers_do_not_fit(self):
        """By hand a piece may look at one argument as unlike numbers."""
        table = (("number", 1), ("number", 2), ("number", 3))
        odd = ("twice", (table, ((0, 1), (1, 1)), 2), table, ((("twice", 4), 2, -1), (("twice", 5), 0, 0), (("twice", 6), 1, 0)))
        book = Book(PARTS, "need")
        self.assertIs(book.put(odd), True)
        for number in (1, 2, 3):
            self.assert_refused_equal(Lacks, ("twice", (number,)), settled, book, f"call twice {number}")
        book.learn(joined_text(PARTS, "call twice 1"), 9)
        self.assertEqual(settled(book, "call twice 1")[:2], (("number", 2), 6))

    def test_not_plain(self):
        book = Book(PARTS, "need")
        for expression in ("fun x x", "twice", "pair 1 2", "call call twice 1 2", "let f twice call f 1"):
            self.assert_refused_equal(NotPlain, joined_text(PARTS, expression), settled, book, expression)
        functions = Book("part k fun f call f 1", "need")
        self.assert_refused_equal(NotPlain, joined_text(functions.parts, "5"), settled, functions, "5")

    def test_wide(self):
        """2000 rows of the run's own line are told, one more is not; ahead of Ring and Lacks of what is down."""
        parts = "part many fun x " + " ".join(["plus x"] * 9) + " x\npart lone fun x call many x"
        book = Book(parts, "name")
        for expression in ("call many 1", "call many 0", "call lone 1"):
            book.learn(joined_text(parts, expression), 9999)
        # By name each look at an argument works it out anew: ten times as many rows for each call around it.
        told = "call many call many plus 0 plus 0 plus 0 plus 0 plus 0 plus 0 plus 0 plus 0 plus 0 plus 0 0"
        program = joined_text(parts, told)
        self.assert_refused_equal(Wide, 2000, settled, book, told)
        rows = 2 + 10 * (2 + 10 * 21)
        self.assertEqual(len(pieces(program, "name", 20000)[0][3]), rows)
        exact = "call many call many plus 0 plus 0 plus 0 plus 0 plus 0 plus 0 plus 0 plus 0 plus 0 0"
        few = settled(book, exact)
        self.assertEqual([len(few[2][3]), few[1]], [2 + 10 * (2 + 10 * 19), len(ended(joined_text(parts, exact), "name", 20000))])
        for more, rows in ((0, 1999), (1, 2000)):
            lone = f"plus {exact} " + "let z 0 " * more + "plus 0 plus 0 call many plus 0 plus 0 plus 0 0"
            self.assertEqual(len(settled(book, lone)[2][3]), rows)
        self.assert_refused_equal(Wide, 2000, settled, book, lone.replace("let z 0", "let z 0 let z 0"))
        of_lone = [piece for piece in book.pieces if piece[0] == "many" and piece[1] in
                   [call[1] for call, _ in requests(joined_text(parts, "0"), "name", book.pieces[-1])]]
        for piece in of_lone:
            book.drop(*piece[:2])
        self.assertEqual(refused(settled, book, "call lone 1")[0], Lacks)
        self.assertEqual(refused(settled, book, f"plus call lone 1 {told}")[0], Wide)

    def test_nothing_is_run(self):
        book = self.book("need", "call dup 2")
        with mock.patch("uselots.steps.advance", side_effect=AssertionError):
            with mock.patch("uselots.traces.advance", side_effect=AssertionError):
                self.assertEqual(settled(expression="call dup 2", book=book)[:2], (("number", 4), 12))


class ByHandPrograms(unittest.TestCase):
    def test_books_of_functions_of_functions(self):
        for program in PROGRAMS:
            for way in WORDS:
                try:
                    told = pieces(program, way, 2000)
                except (NotEnded, StuckAt):
                    continue
                book = Book(parts_text(program), way)
                book.learn(program, 2000)
                self.assertEqual(whole(book, program.line("run")[4:], told[0])[1], len(ended(program, way, 2000)))


if __name__ == "__main__":
    unittest.main()
