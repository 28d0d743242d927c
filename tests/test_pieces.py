"""Point 10, as far as it needs no Book: pieces, and what they request; point 3 (e)."""

import random
import unittest
from unittest import mock

from cutter import Cutter
from helpers import Refusals, any_values
from judge import Judge, piece_is_right
from programs import PROGRAMS, programs_and_ways
from samples import WORDS, sample_ways, siblings
from tables import content, content_of
from uselots import usage
from uselots.errors import BadMost, BadPiece, BadWay, NoProgram, NotEnded, StuckAt, Wide
from uselots.papers import paper
from uselots.pieces import is_piece, pieces, requests
from uselots.runs import ended
from uselots.texts import Program, joined_text
from uselots.uses import is_table

MOST = 200
PARTS = "part twice fun x plus x x\npart four fun y call twice call twice y"
FOUR = joined_text(PARTS, "call four 1")
STUCK = Program("run plus 1 call 2 3")


def ending(many, most=MOST):
    for program, way in programs_and_ways(many):
        try:
            yield program, way, paper(program, way, most)
        except (NotEnded, StuckAt):
            pass


class Cut(unittest.TestCase):
    def test_beside_a_cutter(self):
        many = 0
        for program, way, told in ending(150):
            with self.subTest(text=program.text, way=way):
                here = pieces(program, way, MOST)
                by_hand = Cutter(program, way, *told).told()
                self.assertEqual(here[0], by_hand[0])
                rest = []
                for name in program.parts:
                    rest += sorted(set(piece for piece in by_hand[1:] if piece[0] == name))
                self.assertEqual(here[1:], tuple(rest))
                many += len(by_hand) > len(here) > 1
        self.assertGreater(many, 50)

    def test_sequence(self):
        program = joined_text("part z fun x plus x 1\npart a fun x call z x", "plus call a 2 plus call z 1 call a 1")
        told = pieces(program, "need", 99)
        self.assertEqual([piece[0] for piece in told], ["run", "z", "z", "a", "a"])
        for one, other in ((1, 2), (3, 4)):
            self.assertLess(told[one], told[other])

    def test_a_part_that_is_called_alike_several_times(self):
        program = joined_text(PARTS, "plus call twice 1 plus call twice 1 plus call four 1 call twice plus 2 -1")
        for way in WORDS:
            told = [piece for piece in pieces(program, way, 999) if piece[0] == "twice"]
            self.assertEqual(len(told), 2)
            self.assertEqual(told, sorted(told))

    def test_a_part_that_is_called_by_nobody(self):
        self.assertEqual([piece[0] for piece in pieces(joined_text(PARTS, "5"), "need", 9)], ["run"])
        self.assertEqual([piece[0] for piece in pieces(joined_text(PARTS, "twice"), "need", 9)], ["run"])

    def test_the_runs_piece(self):
        self.assertEqual(pieces(Program("run 5"), "need", 9),
                         (("run", ((("number", 5),), (), 0), (("number", 5),), ((("run", 1), 0, -1),)),))
        for expression, entry in (("fun x x", ("function", ())), ("pair 1 2", ("pair", (), ()))):
            told = pieces(Program(f"run {expression}"), "need", 9)
            self.assertEqual(told, (("run", ((entry,), (), 0), (entry,), ((("run", 1), 0, -1),)),))

    def test_a_call_that_is_not_looked_at_inside(self):
        program = Program("part one fun x 5\nrun plus call one 1 call one fun y y")
        told = pieces(program, "need", 99)[1:]
        self.assertEqual(told, (("one", ((("number", 5),), (), 0), (("number", 5),), ((("one", 4), 0, -1),)),))

    def test_by_value_of_what_nobody_looks_at(self):
        program = Program("part keep fun x let y pair x 2 3\nrun call keep 1")
        (_, kept) = pieces(program, "value", 99)
        self.assertEqual([row[0][1] for row in kept[3]], [4, 6, 7, 8, 9])
        self.assertEqual([kept[2][row[1]] for row in kept[3]],
                         [("number", 3), ("pair", (), ()), ("number", 1), ("number", 2), ("number", 3)])
        self.assertEqual(kept[1], ((("number", 1), ("number", 3)), ((0, 1),), 1))
        (_, kept) = pieces(program, "need", 99)
        self.assertEqual(([row[0][1] for row in kept[3]], kept[1]), ([4, 9], ((("number", 3),), (), 0)))

    def test_line_sequence(self):
        """Bodies of a fun stand by their LOOKS, then by their use."""
        program = Program("run let f fun x fun y plus x y plus call call f 5 1 plus call call f 2 9 call call f 2 1")
        table, rows = pieces(program, "need", 99)[0][2:]
        fun = [number for number, row in enumerate(rows) if row[0] == ("run", 3)][0]
        bodies = [number for number, row in enumerate(rows) if row[2] == fun]
        self.assertEqual(len(bodies), 3)
        told = []
        for body in bodies:
            inner = [row for row in rows if row[2] == body]
            seen = [row for row in rows if row[0] == ("run", 8) and row[2] == rows.index(inner[0])]
            told.append((table[seen[0][1]], table[rows[body][1]]))
        self.assertEqual([x for x, _ in told], [("number", 2), ("number", 2), ("number", 5)])
        self.assertLess(rows[bodies[0]][1], rows[bodies[1]][1])

    def test_several_rows_for_one_place_by_name(self):
        program = Program("run let f fun y plus y 1 plus call f 7 plus call f -3 call f 2")
        rows = pieces(program, "name", 99)[0][3]
        funs = [row[1] for row in rows if row[0] == ("run", 3)]
        self.assertEqual((len(funs), funs), (3, sorted(funs)))


class Guarantee(unittest.TestCase):
    """(e): all runs of the same parts' lines, by one way, that had a CALL had one and the same PIECE of it."""

    def test_runs_of_the_same_parts(self):
        shared, told = 0, 0
        for seed in range(400):
            programs = siblings(seed, 6)
            known = {}
            for program in programs[:1]:
                ways = [way for way in sample_ways(program, seed)
                        if way in WORDS or all(place[0] != "run" for place, _ in way[1])]
            for way in ways if programs else ():
                for program in programs:
                    try:
                        found = Cutter(program, way, *paper(program, way, MOST)).told()
                    except (NotEnded, StuckAt):
                        continue
                    for piece in found[1:]:
                        key = (way, piece[:2])
                        told += 1
                        shared += key in known
                        self.assertEqual(known.setdefault(key, piece), piece)
        self.assertGreater(shared, 500)
        self.assertGreater(told - shared, 200)

    def test_they_are_pieces_of_each_such_program(self):
        for program in PROGRAMS:
            other = joined_text("\n".join(program.text.split("\n")[:-1]), "pair 1 2")
            for way in WORDS:
                try:
                    found = pieces(program, way, MOST)
                except (NotEnded, StuckAt):
                    continue
                for piece in found[1:]:
                    self.assertIs(is_piece(other, way, piece), True)
                    self.assertEqual(requests(other, way, piece), requests(program, way, piece))
                self.assertIs(is_piece(other, way, found[0]), False)

    def test_two_programs_have_the_same_piece(self):
        one, other = joined_text(PARTS, "plus call twice 1 5"), joined_text(PARTS, "call four 1")
        for way in WORDS:
            self.assertIn(pieces(one, way, 99)[1], pieces(other, way, 99))

    def test_sizes_add_up(self):
        for program, way, (table, rows) in ending(100):
            found = pieces(program, way, MOST)
            sizes, waiting, many = {piece[:2]: piece for piece in found}, [(found[0], 1)], 0
            while waiting:
                piece, times = waiting.pop()
                many += times * len(piece[3])
                for call, more in requests(program, way, piece):
                    waiting.append((sizes[call], times * more))
            self.assertEqual(many, len(rows))

    def test_names_do_not_matter(self):
        names = {"twice": "zz", "four": "a", "x": "y", "y": "x", "run": "run"}
        other = Program("\n".join(" ".join(names.get(word, word) for word in line.split(" "))
                                  for line in reversed(PARTS.split("\n"))) + "\nrun call a 1")

        def renamed(piece):
            name, call, table, rows = piece
            return (names[name], call, table, tuple(((names[place[0]], place[1]), *more) for place, *more in rows))

        for way in WORDS:
            told = [renamed(piece) for piece in pieces(FOUR, way, 99)]
            self.assertEqual(sorted(pieces(other, way, 99)), sorted(told))
            self.assertEqual([piece[0] for piece in pieces(other, way, 99)], ["run", "a", "zz", "zz"])
            self.assertTrue(all(is_piece(other, way, piece) for piece in told))


class Judged(Refusals, unittest.TestCase):
    def test_each_piece_that_is_told(self):
        for program, way, told in ending(300):
            for piece in pieces(program, way, MOST):
                self.assertIs(is_piece(program, way, piece), True)

    def test_by_another_way(self):
        told = set()
        for program, way, _ in ending(60):
            for piece in pieces(program, way, MOST):
                for other in WORDS:
                    right = piece_is_right(program, other, piece)
                    self.assertIs(is_piece(program, other, piece), right)
                    told.add(right)
        self.assertEqual(told, {True, False})

    def bent(self, lot, program, piece):
        """A piece bent in one thing."""
        name, (own, looks, use), table, rows = piece
        at = lot.randrange(len(rows))
        place, its, under = rows[at]
        kind = lot.choice(("use", "place", "under", "out", "twice", "exchanged", "name", "looks", "called", "entry", "own",
                           "more", "untidy"))
        if kind == "use":
            rows = rows[:at] + ((place, lot.randrange(len(table)), under),) + rows[at + 1:]
        elif kind == "place":
            rows = rows[:at] + ((lot.choice(program.places), its, under),) + rows[at + 1:]
        elif kind == "under" and at:
            rows = rows[:at] + ((place, its, lot.randrange(at)),) + rows[at + 1:]
        elif kind == "out" and len(rows) > 1:
            at = max(at, 1)
            new = {row: row - (row > at) for row in range(-1, len(rows))}
            new[at] = new[rows[at][2]]
            rows = tuple((*row[:2], new[row[2]]) for number, row in enumerate(rows) if number != at)
        elif kind == "twice":
            rows = rows + ((place, its, max(under, 0)),)
        elif kind == "exchanged":
            rows = self.siblings_exchanged(lot, rows)
        elif kind == "name":
            name = lot.choice(program.parts + ("run",))
        elif kind == "looks":
            looks = lot.choice((looks[:-1], tuple((number, count + 1) for number, count in looks), ((use, 1),)))
        elif kind == "called":
            use = lot.randrange(len(own))
        elif kind == "entry":
            at = lot.randrange(len(table))
            table = table[:at] + (lot.choice(table[:at + 1] + (("number", 77),)),) + table[at + 1:]
        elif kind == "own":
            own = own + (("number", 77),)
        elif kind == "more":
            table = table + (("pair", ((0, 77),), ()),)
        elif kind == "untidy":
            table = table + table[:1]
        return (name, (own, looks, use), table, rows)

    def siblings_exchanged(self, lot, rows):
        """Two rows that stand under one, and all under them, one in the place of the other."""
        below = {}
        for number, row in enumerate(rows):
            below.setdefault(row[2], []).append(number)
        full = [under for under in below if len(below[under]) > 1]
        if not full:
            return rows
        which = lot.choice(full)
        below[which] = lot.sample(below[which], len(below[which]))
        order = []

        def put(row):
            order.append(row)
            for child in below.get(row, ()):
                put(child)

        put(0)
        new = {row: number for number, row in enumerate(order)}
        return tuple((*rows[row][:2], new.get(rows[row][2], -1)) for row in order)

    def test_bent(self):
        lot = random.Random(7)
        told = {True: 0, False: 0}
        for program, way, _ in ending(80):
            for piece in pieces(program, way, MOST):
                for _ in range(6):
                    other = self.bent(lot, program, piece)
                    if lot.random() < 0.3:
                        other = self.bent(lot, program, other)
                    right = other == piece or self.is_right(program, way, other)
                    with self.subTest(text=program.text, way=way, piece=other):
                        self.assertIs(is_piece(program, way, other), right)
                        if not right:
                            self.assert_refused(BadPiece, other, requests, program, way, other)
                    told[right] += other != piece
        self.assertGreater(told[False], 3000)

    def is_right(self, program, way, value):
        name, (own, looks, use), table, rows = value
        fits = is_table(table) and is_table(own + (("pair", looks, ((use, 1),)),))
        return fits and piece_is_right(program, way, value)

    def test_rows_that_are_alike_in_what_they_stand_by(self):
        """Either one stands ahead: made by hand, what stands under them may be unlike."""
        program = joined_text("part one fun x x", "let f fun x call one 0 plus call f 1 call f 1")
        table = (("number", 0), ("number", 5), ("number", 10), ("function", ((((), 1), 1),)),
                 ("function", ((((), 1), 2),)), ("function", (((((0, 1),), 1), 1),)))
        call = ((("number", 10),), (), 0)
        one, other = [(5, 1, 1), (6, 3, 2)], [(5, 1, 1), (6, 5, 4), (7, 0, 4)]
        last = [(8, 2, 0), (9, 1, 7), (10, 3, 8), (12, 1, 7), (13, 3, 10)]
        turned = [(5, 1, 1), (6, 5, 2), (7, 0, 2), (5, 1, 1), (6, 3, 5)]
        for middle, right in ((one + other, True), (turned, True), (one + one, False), (other + one, False)):
            rows = tuple((("run", at), use, under) for at, use, under in [(1, 2, -1), (3, 4, 0)] + middle + last)
            piece = ("run", call, table, rows)
            self.assertIs(is_piece(program, "need", piece), right)
            if right:
                five = ("number", 5)
                self.assertEqual(requests(program, "need", piece),
                                 ((("one", ((("number", 0), five), ((0, 1),), 1)), 1), (("one", ((five,), (), 0)), 1)))

    def test_bodies_out_of_sequence(self):
        program = Program("run let f fun x x plus call f 1 call f 2")
        name, call, table, rows = pieces(program, "need", 99)[0]
        self.assertEqual([row[0][1] for row in rows], [1, 3, 5, 5, 6, 7, 8, 9, 10, 11, 12])
        for order, right in (((0, 1, 2, 3, 4, 5, 6, 7, 8, 9, 10), True), ((0, 1, 3, 2, 4, 5, 6, 7, 8, 9, 10), False),
                             ((0, 4, 5, 6, 7, 8, 9, 10, 1, 2, 3), False), ((0, 1, 2, 3, 4, 8, 9, 10, 5, 6, 7), False),
                             ((0, 1, 2, 3, 4, 5, 8, 6, 7, 9, 10), False), ((0, 1, 4, 2, 3, 5, 6, 7, 8, 9, 10), False)):
            new = {row: number for number, row in enumerate(order)}
            told = tuple((*rows[row][:2], new.get(rows[row][2], -1)) for row in order)
            self.assertIs(is_piece(program, "need", (name, call, table, told)), right, order)

    def test_a_row_for_a_parts_name_has_nothing_under_it(self):
        program = joined_text("part one fun x x", "call one 1")
        name, call, table, rows = pieces(program, "need", 9)[0]
        self.assertIs(is_piece(program, "need", (name, call, table, rows)), True)
        whole = paper(program, "need", 9)
        self.assertIs(is_piece(program, "need", (name, call, *whole)), False)
        self.assertIs(is_piece(program, "need", (name, call, table, rows[:2] + ((("run", 3), 0, 1),) + rows[2:])), False)
        number = [at for at, entry in enumerate(table) if entry[0] == "number"][0]
        bent = tuple((place, number if place == ("run", 2) else use, under) for place, use, under in rows)
        self.assertIs(is_piece(program, "need", (name, call, table, bent)), False)

    def test_a_parts_name_is_a_function(self):
        program = joined_text("part one fun x x", "plus one 1")
        table = (("number", 1), ("number", 5), ("number", 6))
        rows = ((("run", 1), 2, -1), (("run", 2), 1, 0), (("run", 3), 0, 0))
        self.assertEqual(Judge(program, "need", table, rows, "run").wrong, [1])
        self.assertIs(is_piece(program, "need", ("run", ((("number", 6),), (), 0), table, rows)), False)
        program = Program("part one fun x x\nrun one")
        for entry, right in ((("number", 5), False), (("pair", (), ()), False), (("function", ()), True)):
            piece = ("run", ((entry,), (), 0), (entry,), ((("run", 1), 0, -1),))
            self.assertIs(is_piece(program, "need", piece), right)

    def test_rows_of_another_line(self):
        program = joined_text("part one fun x 5\npart two fun x 5", "call one 1")
        table, call = (("number", 5),), ((("number", 5),), (), 0)
        for name, place, right in (("one", "one", True), ("two", "two", True), ("one", "two", False)):
            self.assertIs(is_piece(program, "need", (name, call, table, (((place, 4), 0, -1),))), right)
        self.assertIs(is_piece(program, "need", ("one", call, table, ((("one", 4), 0, -1), (("two", 4), 0, 0)))), False)

    def test_requests_of_calls_that_never_were(self):
        """What the part makes of it is not asked: the LOT may be any."""
        program = joined_text("part one fun x x", "call one 1")
        table = (("number", 1), ("number", 9), ("function", (((((0, 3),), 1), 1),)))
        rows = ((("run", 1), 1, -1), (("run", 2), 2, 0), (("run", 3), 0, 0))
        piece = ("run", ((("number", 9),), (), 0), table, rows)
        self.assertIs(is_piece(program, "need", piece), True)
        call = ((("number", 1), ("number", 9)), ((0, 3),), 1)
        self.assertEqual(requests(program, "need", piece), ((("one", call), 1),))

    def test_the_first_row(self):
        name, call, table, rows = pieces(FOUR, "need", 99)[2]
        self.assertEqual(name, "twice")
        self.assertIs(is_piece(FOUR, "need", (name, call, table, rows)), True)
        for other in ("four", "run", "on", "", "twic"):
            self.assertIs(is_piece(FOUR, "need", (other, call, table, rows)), False)
        program = Program("part f fun x fun y 5\nrun call call f 1 2")
        told = pieces(program, "need", 99)[1]
        self.assertEqual([row[0][1] for row in told[3]], [4, 6])
        inner = ((("f", 6), 0, -1),)
        self.assertIs(is_piece(program, "need", ("f", ((("number", 5),), (), 0), (("number", 5),), inner)), False)

    def test_the_runs_first_row_is_held(self):
        program = Program("run fun x x")
        call = ((("number", 1), ("function", (((((0, 1),), 0), 1),))), (), 1)
        rows = ((("run", 1), 1, -1), (("run", 3), 0, 0))
        self.assertEqual(Judge(program, "need", call[0], rows).wrong, [0])
        self.assertIs(is_piece(program, "need", ("run", call, call[0], rows)), False)
        part = Program("part f fun z fun x x\nrun 1")
        rows = ((("f", 4), 1, -1), (("f", 6), 0, 0))
        self.assertIs(is_piece(part, "need", ("f", call, call[0], rows)), True)

    def test_the_call(self):
        name, (own, looks, use), table, rows = pieces(FOUR, "need", 99)[2]
        for call in ((own, looks, 0), (own, (), use), (own, ((0, 1),), use), (own, ((0, 3),), use), (own, looks, True),
                     (own, ((0, 2), (1, 1)), use), (own, list(looks), use), (list(own), looks, use), [own, looks, use],
                     (own, looks), (own, looks, use, 0), (own + (("number", 5),), looks, use), None, (own, looks, None),
                     (own, ((False, 2),), use), (own[::-1], ((1, 2),), 0)):
            self.assertIs(is_piece(FOUR, "need", (name, call, table, rows)), False, call)

    def test_values_of_all_kinds(self):
        right = pieces(FOUR, "need", 99)[2]
        for value in any_values():
            self.assertIs(is_piece(FOUR, "need", value), False)
            self.assert_refused(BadPiece, value, requests, FOUR, "need", value)
            for at in range(4):
                bent = right[:at] + (value,) + right[at + 1:]
                told = bent == ("run", *right[1:])
                self.assertIs(is_piece(FOUR, "need", bent), False, told)
                self.assert_refused(BadPiece, bent, requests, FOUR, "need", bent)
        for bent in (right[:3], right + ((),), list(right), (right[0], right[1], list(right[2]), right[3]),
                     (*right[:3], list(right[3])), (*right[:3], right[3][:1] + (list(right[3][1]),) + right[3][2:]),
                     (*right[:3], right[3][:2] + ((("twice", 6), False, 0),)), (*right[:3], ())):
            self.assertIs(is_piece(FOUR, "need", bent), False, bent)


class Requests(Refusals, unittest.TestCase):
    def test_times(self):
        program = joined_text(PARTS, "let f twice plus call f 3 plus call f 1 plus call twice 3 call four 3")
        told = pieces(program, "need", 999)[0]
        here = requests(program, "need", told)
        number = {use: ("number", use) for use in range(30)}
        calls = [("twice", ((number[1], number[2]), ((0, 2),), 1)), ("twice", ((number[3], number[6]), ((0, 2),), 1)),
                 ("four", ((number[3], number[12]), ((0, 1),), 1))]
        self.assertEqual(here, tuple(zip(calls, (1, 2, 1))))

    def test_names_in_sequence_and_calls_ascending(self):
        many = 0
        for program, way, _ in ending(300):
            for piece in pieces(program, way, MOST):
                told = requests(program, way, piece)
                keys = [(program.parts.index(name), call) for (name, call), _ in told]
                self.assertEqual(keys, sorted(set(keys)))
                many += any(times > 1 for _, times in told)
        self.assertGreater(many, 20)

    def test_beside_lots(self):
        for program, way, _ in ending(150):
            for name, call, table, rows in pieces(program, way, MOST):
                asked = {}
                for place, use, _ in rows:
                    if program.word(place) in program.parts and program.bound(place) is None:
                        for (looks, its), count in table[use][1]:
                            key = (program.word(place), content_of(table, looks, {}), content(table, its, {}))
                            asked[key] = asked.get(key, 0) + count
                told = {(part, content_of(own, looks, {}), content(own, use, {})): times
                        for (part, (own, looks, use)), times in requests(program, way, (name, call, table, rows))}
                self.assertEqual(told, asked)

    def test_none(self):
        self.assertEqual(requests(Program("run 5"), "need", pieces(Program("run 5"), "need", 1)[0]), ())
        lonely = joined_text(PARTS, "twice")
        self.assertEqual(requests(lonely, "need", pieces(lonely, "need", 1)[0]), ())

    def test_great_counts(self):
        program = joined_text("part one fun x x", "let f one call f 1")
        table = (("number", 1), ("function", (((((0, 1),), 0), 10 ** 40),)))
        piece = ("run", ((("function", ()),), (), 0), (("function", ()),), ((("run", 1), 0, -1),))
        self.assertIs(is_piece(Program("part one fun x x\nrun one"), "need", piece), True)
        piece = ("g", (table, (), 1), table, ((("g", 4), 1, -1),))
        program = Program("part one fun x x\npart g fun x one\nrun 5")
        self.assertEqual(requests(program, "need", piece), ((("one", ((("number", 1),), ((0, 1),), 0)), 10 ** 40),))


class Errors(Refusals, unittest.TestCase):
    def test_no_program(self):
        for value in any_values():
            if not isinstance(value, Program):
                for function in (pieces, is_piece, requests):
                    self.assert_refused(NoProgram, value, function, value, None, None)

    def test_bad_way(self):
        for value in any_values() + ["Need", ("need", ()), ("need", ((("run", 3), "name"),))]:
            if value not in WORDS:
                for function in (pieces, is_piece, requests):
                    self.assert_refused(BadWay, value, function, FOUR, value, None)

    def test_bad_most(self):
        for value in any_values() + [0, -1, 20001, 100000]:
            if type(value) is not int or not 1 <= value <= 20000:
                for program in (FOUR, STUCK):
                    self.assert_refused(BadMost, value, pieces, program, "need", value)

    def test_not_ended_and_stuck(self):
        many = len(ended(FOUR, "need", 99))
        self.assertEqual(len(pieces(FOUR, "need", many)), 4)
        self.assert_refused_equal(NotEnded, many - 1, pieces, FOUR, "need", many - 1)
        self.assert_refused_equal(StuckAt, ("run", 3), pieces, STUCK, "need", 4)
        self.assert_refused_equal(NotEnded, 3, pieces, STUCK, "need", 3)

    def test_wide(self):
        table, _ = paper(FOUR, "need", 99)
        wide = sum(len(lot) + sum(len(asked[0]) for asked, _ in lot) for kind, lot in table if kind == "function")
        with mock.patch.object(usage, "WIDEST", wide):
            self.assertEqual(len(pieces(FOUR, "need", 99)), 4)
        with mock.patch.object(usage, "WIDEST", wide - 1):
            self.assert_refused_equal(Wide, wide - 1, pieces, FOUR, "need", 99)
            self.assert_refused_equal(NotEnded, 3, pieces, FOUR, "need", 3)

    def test_bad_piece(self):
        told = pieces(FOUR, "need", 99)
        for piece in told:
            self.assertEqual(requests(FOUR, "need", piece), requests(FOUR, "value", piece))
        by_name = [piece for piece in pieces(FOUR, "name", 99) if piece not in told]
        for piece in by_name:
            self.assert_refused(BadPiece, piece, requests, FOUR, "need", piece)
        self.assertTrue(by_name)

    def test_arguments_by_name(self):
        told = pieces(most=99, way="need", program=FOUR)
        self.assertIs(is_piece(value=told[1], way="need", program=FOUR), True)
        self.assertEqual(requests(value=told[0], way="need", program=FOUR), requests(FOUR, "need", told[0]))


class Long(unittest.TestCase):
    def test_thousands_of_steps(self):
        parts = "part d fun x plus x x\npart s fun n pick n 0 plus n call s plus n -1"
        program = joined_text(parts, "call s " + "call d " * 4 + "80")
        found = pieces(program, "need", 20000)
        self.assertGreater(len(found), 1000)
        self.assertTrue(all(is_piece(program, "need", piece) for piece in found[::50]))
        self.assertEqual(len(found[0][3]), 11)


if __name__ == "__main__":
    unittest.main()
