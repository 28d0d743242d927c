"""Point 7: papers, as paper writes them, and what is told of them; points 3 (a), (b), (c), (i)."""

import random
import unittest
from unittest import mock

from bending import shuffled, untidied
from helpers import Refusals, any_values
from judge import Judge
from programs import PROGRAMS, programs_and_ways
from reference import Reference
from samples import WORDS
from tables import content, is_tidy
from taps import Taps
from uselots import usage
from uselots.errors import BadMost, BadPaper, BadWay, NoProgram, NotEnded, StuckAt, Wide
from uselots.papers import is_paper, ordered, paper, paper_end, shows_wrong_row, wrong_row
from uselots.runs import ended
from uselots.texts import Program, joined_text

MOST = 200
DOUBLE = "part d fun x plus x x"


def ending(many, most=MOST):
    """Programs and ways by which they end with a value within most steps, with their papers."""
    for program, way in programs_and_ways(many):
        run = ended(program, way, most)
        if run.end is not None and run.end[0] != "stuck":
            yield program, way, run, paper(program, way, most)


def uses(expression, way="need", parts="", most=1000):
    """By PLACE in the run's line what the uses of its rows tell, sorted, as content tells it."""
    table, rows = paper(joined_text(parts, expression), way, most)
    told = {}
    for (name, at), use, _ in rows:
        if name == "run":
            told.setdefault(at, []).append(content(table, use, {}))
    return told


def number(value):
    return ("number", value)


def calls(*asked):
    """A function's use: of (LOOKS, use, count)."""
    return ("function", frozenset(((looks(*its), use), count) for its, use, count in asked))


def looks(*its):
    counts = {}
    for use in its:
        counts[use] = counts.get(use, 0) + 1
    return frozenset(counts.items())


def pair(one, other):
    return ("pair", looks(*one), looks(*other))


class Rows(unittest.TestCase):
    """(a) one row a step, with the run's places and unders."""

    def test_a_row_for_each_step(self):
        for program, way, run, (table, rows) in ending(150):
            self.assertEqual([place for place, _, _ in rows], list(run.places))
            self.assertEqual([under for _, _, under in rows], list(run.unders))
            self.assertTrue(all(type(row) is tuple for row in rows))

    def test_the_table_is_tidy_and_of_just_what_rows_need(self):
        for program, way, run, (table, rows) in ending(150):
            self.assertTrue(is_tidy(table, [use for _, use, _ in rows]))

    def test_one_step(self):
        self.assertEqual(paper(Program("run -7"), "name", 1), ((("number", -7),), ((("run", 1), 0, -1),)))
        self.assertEqual(paper(Program("run fun x x"), "value", 1), ((("function", ()),), ((("run", 1), 0, -1),)))
        self.assertEqual(paper(Program("run pair 1 2"), "need", 1), ((("pair", (), ()),), ((("run", 1), 0, -1),)))

    def test_the_first_row_is_held(self):
        for program, way, run, (table, rows) in ending(150):
            held = {"number": run.end, "function": ("function", ()), "pair": ("pair", (), ())}[run.end[0]]
            self.assertEqual(table[rows[0][1]], held)


class Uses(unittest.TestCase):
    """(c) what each value was used for."""

    def test_beside_taps(self):
        kinds = set()
        for program, way, run, (table, rows) in ending(700):
            with self.subTest(text=program.text, way=way):
                taps = Taps(program.text, way, MOST)
                self.assertEqual(taps.rows, [(place, under) for place, _, under in rows])
                known = {}
                self.assertEqual([content(table, use, known) for _, use, _ in rows], taps.contents())
                kinds |= {(entry[0], bool(entry[-1])) for entry in table}
        self.assertEqual(kinds, {("number", True), ("number", False), ("function", True), ("function", False),
                                 ("pair", True), ("pair", False)})

    def test_numbers(self):
        told = uses("let x plus 1 2 plus x less x 3")
        self.assertEqual(told, {1: [number(3)], 3: [number(3)], 4: [number(1)], 5: [number(2)], 6: [number(3)],
                                7: [number(3)], 8: [number(0)], 9: [number(3)], 10: [number(3)]})

    def test_a_function_is_used_for_its_calls(self):
        plus_one = calls((looks_of(2), number(3), 1), (looks_of(3), number(4), 1))
        for way in ("need", "value"):
            self.assertEqual(uses("let f fun y plus y 1 plus call f 2 call f 3", way)[3], [plus_one])
        self.assertEqual(uses("let f fun y plus y 1 plus call f 2 call f 3", "name")[3],
                         [calls((looks_of(2), number(3), 1)), calls((looks_of(3), number(4), 1))])

    def test_like_calls_are_counted(self):
        told = uses("let f fun y plus y y plus call f 2 plus call f 2 call f 2")
        self.assertEqual(told[3], [calls(((number(2), number(2)), number(4), 3))])
        self.assertEqual(told[10], [calls(((number(2), number(2)), number(4), 1))])

    def test_an_argument_that_nobody_looks_at(self):
        self.assertEqual(uses("call fun x 5 call 1 2")[2], [calls(((), number(5), 1))])
        self.assertEqual(uses("call fun x 5 fun z z", "value")[5], [("function", frozenset())])
        self.assertEqual(uses("let x pair 1 2 5", "value"),
                         {1: [number(5)], 3: [pair((), ())], 4: [number(1)], 5: [number(2)], 6: [number(5)]})

    def test_halves(self):
        told = uses("let p pair 1 fun x x plus first p call second p first p")
        one = calls((looks_of(1), number(1), 1))
        self.assertEqual(told[3], [pair((number(1), number(1)), (one,))])
        self.assertEqual((told[10], told[13], told[15]),
                         ([pair((number(1),), ())], [pair((), (one,))], [pair((number(1),), ())]))

    def test_functions_of_functions(self):
        told = uses("call call fun f fun x call f call f x fun y plus y 2 1")
        once, again = calls((looks_of(1), number(3), 1)), calls((looks_of(3), number(5), 1))
        both = calls((looks_of(1), number(3), 1), (looks_of(3), number(5), 1))
        self.assertEqual((told[8], told[10], told[12]), ([again], [once], [both]))
        self.assertEqual(told[2], [calls((looks_of(1), number(5), 1))])
        self.assertEqual(told[3], [calls(((once, again), calls((looks_of(1), number(5), 1)), 1))])

    def test_a_parts_function(self):
        told = uses("let f d plus call f 1 call d 2", "need", DOUBLE)
        self.assertEqual(told[3], [calls(((number(1), number(1)), number(2), 1))])
        self.assertEqual(told[9], [calls(((number(2), number(2)), number(4), 1))])


def looks_of(*numbers):
    return [number(value) for value in numbers]


class Judged(Refusals, unittest.TestCase):
    """(b): rows of runs keep the rules, however they are written, and tell the run's end."""

    def test_papers_are_papers(self):
        for program, way, run, told in ending(400):
            self.assertIs(is_paper(program, way, told), True)
            self.assertIsNone(wrong_row(program, way, told))
            self.assertEqual(paper_end(program, way, told), (run.end, len(run)))
            self.assertEqual(ordered(program, way, told), told)

    def test_written_otherwise(self):
        for seed, (program, way, run, told) in enumerate(ending(150)):
            lot = random.Random(seed)
            for other in (shuffled(lot, *told), untidied(lot, *told), untidied(lot, *shuffled(lot, *told))):
                with self.subTest(text=program.text, way=way, other=other):
                    self.assertIs(is_paper(program, way, other), True)
                    self.assertIsNone(wrong_row(program, way, other))
                    self.assertIs(shows_wrong_row(program, way, other, None), True)
                    self.assertEqual(paper_end(program, way, other), (run.end, len(run)))
                    self.assertEqual(ordered(program, way, other), told)

    def test_by_another_way(self):
        told = set()
        for program, way, run, (table, rows) in ending(100):
            for other in WORDS:
                right = Judge(program, other, table, rows).wrong == []
                self.assertIs(is_paper(program, other, (table, rows)), right)
                run_there = ended(program, other, MOST)
                if right:
                    self.assertEqual((run_there.end, len(run_there)), (run.end, len(run)))
                else:
                    self.assert_refused_equal(BadPaper, (table, rows), ordered, program, other, (table, rows))
                told.add(right)
        self.assertEqual(told, {True, False})

    def test_of_another_program(self):
        one, other = Program("run plus 1 2"), Program("run plus 2 1")
        told = paper(one, "need", 9)
        self.assertEqual((wrong_row(other, "need", told), wrong_row(Program("run 1"), "need", told)), (1, -1))
        self.assertIs(is_paper(Program("run plus 1 2"), "need", told), True)

    def test_by_need_and_by_value_the_same_rows_where_all_is_looked_at(self):
        program = Program("run let x plus 1 2 plus x x")
        by_value = paper(program, "value", 99)
        self.assertNotEqual(by_value, paper(program, "need", 99))
        self.assertEqual(ordered(program, "need", by_value), paper(program, "need", 99))

    def test_more_rows_than_paper_writes(self):
        program = joined_text(f"{DOUBLE}\npart s fun n pick n 0 call s plus n -1", "call s " + "call d " * 6 + "50")
        self.assert_refused_equal(NotEnded, 20000, paper, program, "need", 20000)
        machine = usage.Trace(usage_machine(program))
        table, told = usage.Usage(machine).tidy()
        rows = tuple(zip([node.place for node in machine.machine.nodes], told, machine.machine.under_of))
        self.assertGreater(len(rows), 20000)
        self.assertIs(is_paper(program, "need", (table, rows)), True)
        self.assertEqual(paper_end(program, "need", (table, rows)), (("number", 0), len(rows)))
        self.assertEqual(ordered(program, "need", (table, rows)), (table, rows))


def usage_machine(program):
    from uselots.traces import finished
    return finished(program, "need", 100000)


class Names(unittest.TestCase):
    def test_names_do_not_matter(self):
        """(i): parts and bound names called otherwise, parts in another sequence."""
        names = {"f": "part2", "g": "a", "h": "g", "x": "y", "y": "x", "z": "h", "u": "zz", "v": "f"}

        def renamed(place):
            return (names.get(place[0], place[0]), place[1])

        for program, way, run, (table, rows) in ending(100):
            if not set(program.parts) <= {"f", "g", "h"} or program in PROGRAMS:
                continue
            lines = [" ".join(names.get(word, word) for word in line.split(" ")) for line in program.text.split("\n")]
            other = Program("\n".join(list(reversed(lines[:-1])) + lines[-1:]))
            if way not in WORDS:
                way = (way[0], tuple(sorted((renamed(place), word) for place, word in way[1])))
            told = tuple((renamed(place), use, under) for place, use, under in rows)
            self.assertEqual(paper(other, way, MOST), (table, told))
            self.assertIs(is_paper(other, way, (table, told)), True)


class Long(Refusals, unittest.TestCase):
    def test_thousands_of_steps(self):
        parts = "part s fun n pick n 0 plus n call s plus n -1"
        program = joined_text(f"{DOUBLE}\n{parts}", "call s " + "call d " * 4 + "80")
        for way in ("need", "value"):
            run = ended(program, way, 20000)
            self.assertGreater(len(run), 10000)
            table, rows = paper(program, way, 20000)
            self.assertEqual((len(rows), table[rows[0][1]]), (len(run), ("number", 9999)))
            self.assertIs(is_paper(program, way, (table, rows)), True)
            self.assertEqual(ordered(program, way, (table, rows)), (table, rows))
            self.assertIn(wrong_row(program, way, (table, rows[:-1])), range(len(rows)))
            self.assertIs(shows_wrong_row(program, way, (table, rows[:-1]), rows[-1][2]), True)
            self.assertIs(shows_wrong_row(program, way, (table, rows[:-1]), None), False)
            self.assertEqual(paper(program, way, len(run)), (table, rows))
            self.assert_refused_equal(NotEnded, len(run) - 1, paper, program, way, len(run) - 1)

    def test_high_tables(self):
        parts = "part mk fun n pick n 0 pair n call mk plus n -1\npart go fun k fun l pick k 0 call call go plus k -1 second l"
        program = joined_text(f"{parts}\n{DOUBLE}", "let k call d call d 99 call call go k call mk k")
        for way in ("need", "value"):
            table, rows = paper(program, way, 20000)
            self.assertGreater(len(table), 396)
            self.assertIs(is_paper(program, way, (table, rows)), True)


class Widths(Refusals, unittest.TestCase):
    PARTS = "part lp fun f fun n pick n 0 plus call f n call call lp f plus n -1\n" + DOUBLE

    def pairs(self, table):
        """How many pairs (use, count) and ((LOOKS, use), count) stand in a TABLE."""
        many = 0
        for kind, *sides in table:
            if kind == "function":
                many += sum(1 + len(asked[0]) for asked, _ in sides[0])
            if kind == "pair":
                many += len(sides[0]) + len(sides[1])
        return many

    def program(self, many):
        return joined_text(self.PARTS, f"call call lp fun y plus y 1 call d call d call d {many}")

    def test_wide(self):
        table, _ = told = paper(self.program(35), "need", 20000)
        self.assertLess(self.pairs(table), 100000)
        self.assertGreater(self.pairs(table), 70000)
        self.assertIs(is_paper(self.program(35), "need", told), True)
        for way in ("need", "value"):
            self.assert_refused_equal(Wide, 100000, paper, self.program(60), way, 20000)
        self.assert_refused_equal(NotEnded, 3000, paper, self.program(60), "need", 3000)

    def test_a_wide_paper_is_one_but_ordered_does_not_tell_it(self):
        program = self.program(60)
        with mock.patch.object(usage, "WIDEST", 10 ** 9):
            table, rows = paper(program, "need", 20000)
        self.assertGreater(self.pairs(table), 100000)
        self.assertIs(is_paper(program, "need", (table, rows)), True)
        self.assertEqual(paper_end(program, "need", (table, rows))[1], len(rows))
        self.assert_refused_equal(Wide, 100000, ordered, program, "need", (table, rows))
        self.assert_refused(BadPaper, told := (table, rows[:-1]), ordered, program, "need", told)

    def test_the_bound_itself_is_not_too_wide(self):
        for program, way, run, told in ending(40):
            wide = self.pairs(told[0])
            with mock.patch.object(usage, "WIDEST", wide):
                self.assertEqual(paper(program, way, MOST), told)
            if wide:
                with mock.patch.object(usage, "WIDEST", wide - 1):
                    self.assert_refused_equal(Wide, wide - 1, paper, program, way, MOST)
                    self.assert_refused_equal(Wide, wide - 1, ordered, program, way, told)


class Errors(Refusals, unittest.TestCase):
    PROGRAM = Program("run let x plus 1 2 plus x x")
    STUCK = Program("run plus 1 call 2 3")

    def test_no_program(self):
        for value in any_values():
            if not isinstance(value, Program):
                self.assert_refused(NoProgram, value, paper, value, None, None)
                for function in (is_paper, wrong_row, paper_end, ordered):
                    self.assert_refused(NoProgram, value, function, value, None, None)
                self.assert_refused(NoProgram, value, shows_wrong_row, value, None, None, None)

    def test_bad_way(self):
        for value in any_values() + ["Need", ("need", ()), ("need", ((("run", 4), "name"),))]:
            if value not in WORDS:
                self.assert_refused(BadWay, value, paper, self.PROGRAM, value, None)
                for function in (is_paper, wrong_row, paper_end, ordered):
                    self.assert_refused(BadWay, value, function, self.PROGRAM, value, None)
                self.assert_refused(BadWay, value, shows_wrong_row, self.PROGRAM, value, None, None)

    def test_bad_most(self):
        for value in any_values() + [0, -1, 20001, 100000]:
            if type(value) is not int or not 1 <= value <= 20000:
                self.assert_refused(BadMost, value, paper, self.PROGRAM, "need", value)
                self.assert_refused(BadMost, value, paper, self.STUCK, "need", value)

    def test_not_ended_and_stuck(self):
        for way, many in (("name", 10), ("need", 7), ("value", 7)):
            self.assertEqual(len(paper(self.PROGRAM, way, many)[1]), many)
            for most in range(1, many):
                self.assert_refused_equal(NotEnded, most, paper, self.PROGRAM, way, most)
            self.assert_refused_equal(NotEnded, 3, paper, self.STUCK, way, 3)
            for most in (4, 5, 20000):
                self.assert_refused_equal(StuckAt, ("run", 3), paper, self.STUCK, way, most)

    def test_arguments_by_name(self):
        told = paper(most=9, way="need", program=self.PROGRAM)
        self.assertIs(is_paper(value=told, program=self.PROGRAM, way="need"), True)
        self.assertIsNone(wrong_row(value=told, program=self.PROGRAM, way="need"))
        self.assertIs(shows_wrong_row(value=None, claim=told, program=self.PROGRAM, way="need"), True)
        self.assertEqual(paper_end(value=told, program=self.PROGRAM, way="need"), (("number", 6), 7))
        self.assertEqual(ordered(value=told, program=self.PROGRAM, way="need"), told)

    def test_bad_paper(self):
        told = paper(self.PROGRAM, "need", 9)
        for value in any_values() + [list(told), told[1], (told[0],), told + ((),), (list(told[0]), told[1])]:
            for function in (paper_end, ordered):
                self.assert_refused(BadPaper, value, function, self.PROGRAM, "need", value)


class Second(unittest.TestCase):
    def test_the_tests_machines_agree(self):
        """taps.py and reference.py, which know nothing of one another."""
        for program, way in programs_and_ways(100):
            taps, told = Taps(program.text, way, MOST), Reference(program.text, way, MOST)
            self.assertEqual(taps.end, told.end)
            self.assertEqual([under for _, under in taps.rows], told.unders)


if __name__ == "__main__":
    unittest.main()
