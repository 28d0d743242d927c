"""Point 7: papers bent in one thing and in two, each rule by itself; held to the judge, who reads the rules once more."""

import unittest

from bending import Bend
from helpers import Refusals, any_values
from judge import Judge
from programs import programs_and_ways
from samples import WORDS
from uselots.errors import BadPaper, NotEnded, StuckAt
from uselots.papers import is_paper, ordered, paper, paper_end, shows_wrong_row, wrong_row
from uselots.texts import Program
from uselots.uses import is_table

MOST = 60
ODD = (None, True, False, "0", "1", (), (0,), [1], 1.0)


def papers(many):
    for program, way in programs_and_ways(many):
        try:
            yield program, way, paper(program, way, MOST)
        except (NotEnded, StuckAt):
            pass


class ByLot(Refusals, unittest.TestCase):
    def check(self, program, way, told):
        """Compares all that is told of a claim with what the judge says, and returns this."""
        table, rows = told
        wrong = Judge(program, way, table, rows).wrong if is_table(table) else -1
        self.assertIs(is_paper(program, way, told), wrong == [])
        met = wrong_row(program, way, told)
        right = {-1} if wrong == -1 else set(wrong) or {None}
        self.assertIn(met, right)
        some = list(range(-2, len(rows) + 2)) if len(rows) < 12 else [-1, 0, len(rows) // 2, len(rows) - 1, len(rows)]
        for value in some + sorted(right - {None})[:4] + [None]:
            self.assertIs(shows_wrong_row(program, way, told, value), value in right)
        for value in ODD[1:]:
            self.assertIs(shows_wrong_row(program, way, told, value), False)
        if wrong != []:
            self.assert_refused(BadPaper, told, paper_end, program, way, told)
            self.assert_refused(BadPaper, told, ordered, program, way, told)
        return wrong

    def test_bent_in_one_thing_and_in_two(self):
        kinds = {"none": 0, "form": 0, "row": 0, "rows": 0, "same": 0}
        for seed, (program, way, told) in enumerate(papers(60)):
            for number in range(10):
                bend = Bend(seed * 100 + number, program)
                other = bend.bent(*told)
                if number % 2:
                    other = bend.bent(*other)
                with self.subTest(text=program.text, way=way, other=other):
                    wrong = self.check(program, way, other)
                    if wrong == []:
                        # There is just one paper, but for the sequence of its rows and its TABLE's numbers.
                        self.assertEqual(ordered(program, way, other), told)
                        kinds["same" if other == told else "none"] += 1
                    else:
                        kinds["form" if wrong == -1 else "row" if len(wrong) == 1 else "rows"] += 1
        self.assertTrue(kinds["none"] and min(kinds["row"], kinds["rows"], kinds["same"]) > 300, kinds)

    def test_each_kind_of_bend(self):
        names = ("use", "place", "under", "out", "out_whole", "twice", "exchanged", "exchanged_whole", "count", "number",
                 "entry", "alike")
        for name in names:
            met = set()
            for seed, (program, way, told) in enumerate(papers(20)):
                bend = Bend(seed, program)
                for _ in range(3):
                    wrong = self.check(program, way, getattr(bend, name)(*told))
                    met.add(wrong == [])
            self.assertIn(False, met, name)


SUMS = Program("run let x plus 1 2 plus x x")
CALLS = Program("run let f fun y plus y 1 plus call f 2 call f 3")
PART = Program("part d fun x plus x x\nrun call d 5")


def run_rows(*told):
    return tuple((("run", at), use, under) for at, use, under in told)


class Forms(Refusals, unittest.TestCase):
    """What is no (TABLE, ROWS) at all: -1, and nothing else."""

    def refused_form(self, program, value, way="need"):
        self.assertIs(is_paper(program, way, value), False, value)
        self.assertEqual((wrong_row(program, way, value), type(wrong_row(program, way, value))), (-1, int), value)
        for told in (-1, 0, 1, None, True, False, "-1", (-1,), [-1], -1.0):
            self.assertIs(shows_wrong_row(program, way, value, told), type(told) is int and told == -1, (value, told))
        self.assert_refused(BadPaper, value, paper_end, program, way, value)
        self.assert_refused(BadPaper, value, ordered, program, way, value)

    def test_values_of_all_kinds(self):
        for value in any_values():
            self.refused_form(SUMS, value)
            self.refused_form(SUMS, (value, value))
            self.refused_form(SUMS, ((("number", 6),), value))
            self.refused_form(SUMS, ((("number", 6),), (value,)))
            self.refused_form(SUMS, ((("number", 6),), ((value, 0, -1),)))
            if value != ():
                self.refused_form(SUMS, (value, paper(SUMS, "need", 9)[1]))

    def test_rows(self):
        table, rows = paper(SUMS, "need", 9)
        for wrong in ([], list(rows), rows[1:], (), rows[:3] + (list(rows[3]),) + rows[4:], rows + (("run", 8), 2, 1),
                      rows + ((("run", 8), 2),), rows + ((("run", 8), 2, 1, 1),), rows + (None,)):
            self.refused_form(SUMS, (table, wrong))

    def test_places(self):
        table, rows = paper(SUMS, "need", 9)
        for place in (["run", 8], ("run", 2), ("run", 0), ("run", 9), ("run", "8"), ("run", True), ("d", 2), None, "run", 8,
                      ("run",), ("run", 8, 8), (["run"], 8)):
            self.refused_form(SUMS, (table, rows[:6] + ((place, 2, 1),)))

    def test_uses(self):
        table, rows = paper(SUMS, "need", 9)
        for use in (4, -1, True, False, None, "2", (2,), 2.0):
            self.refused_form(SUMS, (table, rows[:6] + ((("run", 8), use, 1),)))

    def test_unders(self):
        table, rows = paper(SUMS, "need", 9)
        for under in (-1, -2, 6, 7, True, False, None, "1", (1,), 1.0):
            self.refused_form(SUMS, (table, rows[:6] + ((("run", 8), 2, under),)))
        for under in (0, 1, -2, None, True, False, "-1", -1.0):
            self.refused_form(SUMS, (table, ((("run", 1), 3, under),) + rows[1:]))

    def test_a_row_ahead_of_the_one_under_which_it_stands(self):
        table, rows = paper(SUMS, "need", 9)
        for at in range(1, 7):
            for under in range(at, 8):
                place, use, _ = rows[at]
                self.refused_form(SUMS, (table, rows[:at] + ((place, use, under),) + rows[at + 1:]))

    def test_tables(self):
        table, rows = paper(CALLS, "need", 99)
        for wrong in (list(table), table[:-1], table[::-1], table[:-1] + (["number", 1],), table + (None,),
                      table + (("function", (((((0, 1),), 8), 1),)),), table + (("pair", ((0, 1), (0, 1)), ()),),
                      table + (("number", 10000),), table + (("pair", ((True, 1),), ()),)):
            self.refused_form(CALLS, (wrong, rows))


class OneRule(unittest.TestCase):
    """For each rule rows that keep it, and rows that keep all but it."""

    def check(self, text, way, table, rows, *wrong):
        program = Program(text)
        told = tuple((place if isinstance(place, tuple) else ("run", place), use, under) for place, use, under in rows)
        self.assertEqual(Judge(program, way, table, told).wrong, list(wrong))
        self.assertIs(is_paper(program, way, (table, told)), not wrong)
        self.assertIn(wrong_row(program, way, (table, told)), wrong or (None,))
        for row in range(len(rows)):
            self.assertIs(shows_wrong_row(program, way, (table, told), row), row in wrong, row)

    def each(self, text, table, *rows_and_wrong, ways=WORDS):
        for way in ways:
            for rows, wrong in rows_and_wrong:
                self.check(text, way, table, rows, *wrong)

    NUMBERS = tuple(("number", value) for value in range(6))

    def test_the_first_row(self):
        self.each("run plus 1 2", self.NUMBERS, ([(1, 3, -1), (2, 1, 0), (3, 2, 0)], []),
                  ([(2, 1, -1)], [0]), ([(3, 2, -1)], [0]))
        table = (("number", 5), ("function", ()), ("function", (((((0, 1),), 0), 1),)))
        self.each("run fun x 5", table, ([(1, 1, -1)], []), ([(1, 2, -1), (3, 0, 0)], [0]))
        body = [(1, 2, -1), (3, 0, 0)]
        self.each("run fun x x", table, ([(1, 1, -1)], []), (body, [0]))
        self.each("run pair 5 6", (("number", 5), ("pair", (), ()), ("pair", ((0, 1),), ())),
                  ([(1, 1, -1)], []), ([(1, 2, -1), (2, 0, 0)], [0]), ways=("name", "need"))

    def test_an_integer(self):
        self.each("run 3", self.NUMBERS + (("function", ()), ("pair", (), ())), ([(1, 3, -1)], []), ([(1, 2, -1)], [0]),
                  ([(1, 6, -1)], [0]), ([(1, 7, -1)], [0]), ([(1, 3, -1), (1, 3, 0)], [0]))

    def test_plus_and_less(self):
        self.each("run plus 1 2", self.NUMBERS, ([(1, 4, -1), (2, 1, 0), (3, 2, 0)], [0]),
                  ([(1, 1, -1), (2, 1, 0)], [0]), ([(1, 2, -1), (3, 2, 0)], [0]),
                  ([(1, 3, -1), (2, 1, 0), (3, 2, 0), (3, 2, 0)], [0]), ([(1, 3, -1), (2, 1, 0), (3, 2, 1)], [0, 1]),
                  ([(1, 3, -1), (3, 2, 0), (2, 1, 0)], []), ([(1, 4, -1), (2, 1, 0), (3, 3, 0)], [2]))
        self.each("run less 1 2", self.NUMBERS, ([(1, 1, -1), (2, 1, 0), (3, 2, 0)], []),
                  ([(1, 0, -1), (2, 1, 0), (3, 2, 0)], [0]), ([(1, 0, -1), (2, 2, 0), (3, 2, 0)], [1]))
        self.each("run less 2 2", self.NUMBERS, ([(1, 0, -1), (2, 2, 0), (3, 2, 0)], []),
                  ([(1, 1, -1), (2, 2, 0), (3, 2, 0)], [0]))
        self.each("run plus fun x 1 2", self.NUMBERS + (("function", ()),), ([(1, 2, -1), (2, 6, 0), (5, 2, 0)], [0]))

    def test_sums_at_the_bounds(self):
        text = "run plus call d call d call d call d call d call d call d 99 99\npart"
        text = "part d fun x plus x x\n" + text.split("\n")[0]
        told = paper(Program(text), "need", 99)
        at = told[0].index(("number", 9999))
        self.assertEqual(told[1][0][1], at)
        self.assertIs(is_paper(Program(text), "need", told), True)
        for value in (9998, -9999, 9900, 0):
            table = told[0] + (("number", value),)
            bent = (table, (((*told[1][0][:1], len(told[0]), -1)),) + told[1][1:])
            self.assertEqual(wrong_row(Program(text), "need", bent), 0)

    def test_pick(self):
        self.each("run pick 0 1 2", self.NUMBERS, ([(1, 1, -1), (2, 0, 0), (3, 1, 0)], []),
                  ([(1, 2, -1), (2, 0, 0), (4, 2, 0)], [0]), ([(1, 1, -1), (2, 0, 0)], [0]),
                  ([(1, 1, -1), (2, 0, 0), (3, 1, 0), (4, 2, 0)], [0]), ([(1, 1, -1), (3, 1, 0)], [0]),
                  ([(1, 1, -1), (2, 0, 0), (3, 1, 0), (3, 1, 0)], [0]), ([(1, 2, -1), (2, 0, 0), (3, 1, 0)], [0]),
                  ([(1, 1, -1), (2, 0, 0), (2, 0, 0), (3, 1, 0)], [0]))
        self.each("run pick -1 1 2", self.NUMBERS + (("number", -1),), ([(1, 2, -1), (2, 6, 0), (4, 2, 0)], []),
                  ([(1, 1, -1), (2, 6, 0), (3, 1, 0)], [0]), ([(1, 1, -1), (2, 0, 0), (3, 1, 0)], [1]))

    def test_let(self):
        text = "run let x 1 plus x x"
        rows = [(1, 2, -1), (4, 2, 0), (5, 1, 1), (6, 1, 1)]
        self.each(text, self.NUMBERS, (rows + [(3, 1, 0)], []), ways=("need", "value"))
        self.each(text, self.NUMBERS, (rows + [(3, 1, 0), (3, 1, 0)], []), (rows + [(3, 1, 0)], [0]), ways=("name",))
        self.each(text, self.NUMBERS, (rows + [(3, 1, 0)] * 3, [0]), (rows, [0]), (rows + [(3, 2, 0)] * 2, [0, 4, 5]))
        self.each(text, self.NUMBERS, (rows + [(3, 1, 0)] * 2, [0]), ways=("need", "value"))
        self.each(text, self.NUMBERS, ([(1, 3, -1)] + rows[1:] + [(3, 1, 0)], [0]), ([(1, 2, -1), (3, 1, 0)], [0]),
                  (rows + [(3, 1, 0), (4, 2, 0), (5, 1, 5), (6, 1, 5)], [0]), ways=("need", "value"))

    def test_what_nobody_looks_at(self):
        table = (("number", 1), ("number", 2), ("function", ()), ("function", (((((0, 1),), 0), 1),)))
        self.each("run let x 1 2", table, ([(1, 1, -1), (4, 1, 0)], []), ([(1, 1, -1), (4, 1, 0), (3, 0, 0)], [0]),
                  ways=("name", "need"))
        self.each("run let x 1 2", table, ([(1, 1, -1), (4, 1, 0)], [0]), ([(1, 1, -1), (4, 1, 0), (3, 0, 0)], []),
                  ([(1, 1, -1), (4, 1, 0), (3, 0, 0), (3, 0, 0)], [0]), ways=("value",))
        called = [(1, 1, -1), (6, 1, 0), (3, 3, 0), (5, 0, 2)]
        self.each("run let x fun y y 2", table, ([(1, 1, -1), (6, 1, 0), (3, 2, 0)], []), (called, [0]), ways=("value",))
        self.each("run call fun z 2 1", table + (("function", ((((), 1), 1),)),),
                  ([(1, 1, -1), (2, 4, 0), (4, 1, 1)], []), ([(1, 1, -1), (2, 4, 0), (4, 1, 1), (5, 0, 0)], [0]),
                  ways=("name", "need"))

    CALL = (("number", 1), ("number", 2), ("function", (((((0, 1),), 0), 1),)), ("function", (((((0, 1),), 0), 2),)),
            ("function", ()), ("function", (((((0, 2),), 0), 1),)), ("function", (((((0, 1),), 1), 1),)))

    def test_call_and_fun(self):
        text = "run call fun x x 1"
        rows = [(1, 0, -1), (2, 2, 0), (4, 0, 1), (5, 0, 0)]
        self.each(text, self.CALL, (rows, []), (rows[:3], [0]), (rows[:2] + [(5, 0, 0)], [1]),
                  ([(1, 0, -1), (5, 0, 0)], [0]), ([(1, 1, -1)] + rows[1:], [0]),
                  ([(1, 0, -1), (2, 3, 0), (4, 0, 1), (4, 0, 1), (5, 0, 0)], [0]),
                  ([(1, 0, -1), (2, 3, 0), (4, 0, 1), (5, 0, 0)], [0, 1]),
                  ([(1, 0, -1), (2, 2, 0), (4, 0, 1), (4, 0, 1), (5, 0, 0)], [1]),
                  ([(1, 0, -1), (2, 4, 0), (5, 0, 0)], [0]), ([(1, 0, -1), (2, 0, 0), (5, 0, 0)], [0, 1]),
                  ([(1, 0, -1), (2, 6, 0), (4, 0, 1), (5, 0, 0)], [0, 1]), (rows + [(2, 4, 0)], [0]),
                  ([(1, 0, -1), (2, 5, 0), (4, 0, 1), (5, 0, 0)], [1]), (rows[:3] + [(5, 0, 1)], [0, 1]),
                  (rows[:3] + [(5, 1, 0)], [0, 3]), ways=("need", "value"))
        self.each(text, self.CALL, (rows + [(5, 0, 0)], [0]), (rows + [(4, 0, 0)], [0]), (rows + [(2, 4, 0)], [0]))

    def test_counts_of_calls(self):
        text = "run let f fun x x plus call f 1 call f 1"
        rows = [(1, 1, -1), (6, 1, 0), (7, 0, 1), (8, 2, 2), (9, 0, 2), (10, 0, 1), (11, 2, 5), (12, 0, 5)]
        fun = [(3, 3, 0), (5, 0, 8), (5, 0, 8)]
        alone = [(3, 2, 0), (5, 0, 8)]
        self.each(text, self.CALL, (rows + fun, []), (rows + alone, [0]), (rows + fun[:1] + fun[:1], [0, 8, 9]),
                  (rows + [(3, 2, 0), (5, 0, 8), (5, 0, 8)], [0, 8]), (rows + fun[:2], [8]), ways=("need", "value"))
        by_name = rows + [(3, 2, 0), (5, 0, 8), (3, 2, 0), (5, 0, 10)]
        self.each(text, self.CALL, (rows + fun, [0]), (rows + alone, [0]), (by_name, []), ways=("name",))

    def test_pairs_and_halves(self):
        table = (("number", 1), ("number", 2), ("pair", ((0, 1),), ()), ("pair", (), ((0, 1),)), ("pair", ((0, 2),), ()),
                 ("pair", (), ((1, 1),)), ("pair", (), ()), ("pair", ((0, 1),), ((1, 1),)))
        rows = [(1, 0, -1), (2, 2, 0), (3, 0, 1)]
        self.each("run first pair 1 2", table, (rows, []), (rows[:2], [1]), (rows + [(3, 0, 1)], [1]),
                  (rows + [(4, 1, 1)], [1]), ([(1, 0, -1), (2, 6, 0)], [0]), ([(1, 0, -1)], [0]),
                  ([(1, 1, -1)] + rows[1:], [0]), ([(1, 0, -1), (2, 7, 0), (3, 0, 1), (4, 1, 1)], [0]),
                  ([(1, 0, -1), (2, 3, 0), (4, 0, 1)], [0, 2]), ([(1, 0, -1), (2, 0, 0)], [0, 1]),
                  (rows + [(2, 6, 0)], [0]), ways=("name", "need"))
        self.each("run first pair 1 2", table, (rows, [1]), (rows + [(4, 1, 1)], []), (rows + [(4, 0, 1)], [3]),
                  (rows + [(4, 1, 1), (4, 1, 1)], [1]), ([(1, 0, -1), (2, 2, 0), (4, 1, 1)], [1]), ways=("value",))
        self.each("run first pair 1 2", table, ([(1, 0, -1), (2, 4, 0), (3, 0, 1)], [0]), ways=("need",))
        self.each("run first pair 1 2", table, ([(1, 0, -1), (2, 4, 0), (3, 0, 1), (3, 0, 1)], [0]), ways=("name",))
        self.each("run second pair 1 2", table, ([(1, 1, -1), (2, 5, 0), (4, 1, 1)], []), ([(1, 1, -1), (2, 6, 0)], [0]),
                  ([(1, 0, -1), (2, 2, 0), (3, 0, 1)], [0]), ways=("name", "need"))

    def test_a_parts_name(self):
        text = "part d fun x plus x x\nrun call d 1"
        table = (("number", 1), ("number", 2), ("function", (((((0, 2),), 1), 1),)), ("function", ()),
                 ("function", (((((0, 2),), 1), 2),)))
        body = [(("d", 4), 1, 1), (("d", 5), 0, 2), (("d", 6), 0, 2)]
        rows = [(1, 1, -1), (2, 2, 0)] + body + [(3, 0, 0)]
        self.each(text, table, (rows, []), (rows[:2] + rows[5:], [1]), ([(1, 1, -1), (2, 3, 0)] + body + [(3, 0, 0)], [0, 1]),
                  ([(1, 1, -1), (2, 4, 0)] + body + [(3, 0, 0)], [0, 1]), (rows + [(("d", 2), 3, 1)], [1]),
                  ([(1, 1, -1), (2, 0, 0)] + body + [(3, 0, 0)], [0, 1]), ways=("need", "value"))
        under_call = [(1, 1, -1), (2, 2, 0), (("d", 4), 1, 0), (("d", 5), 0, 2), (("d", 6), 0, 2), (3, 0, 0)]
        self.each(text, table, (under_call, [0, 1]), ways=("need", "value"))

    def test_a_name_that_belongs_to_no_row(self):
        table = (("number", 1), ("number", 2))
        text = "part d fun x x\nrun let y 1 plus y y"
        rows = [(1, 1, -1), (4, 1, 0), (5, 0, 1), (6, 0, 1), (3, 0, 0)]
        self.each(text, table, (rows, []), (rows + [(5, 0, 0)], [0, 5]), ways=("need", "value"))
        text = "part d fun x x\nrun let y d call y 1"
        table = (("number", 1), ("function", (((((0, 1),), 0), 1),)))
        rows = [(1, 0, -1), (4, 0, 0), (5, 1, 1), (6, 0, 1), (3, 1, 0), (("d", 4), 0, 4)]
        self.each(text, table, (rows, []), (rows + [(5, 1, 4)], [4, 6]), (rows + [(("d", 4), 0, 0)], [0]),
                  (rows + [(5, 1, 5)], [5, 6]), ways=("need", "value"))

    def test_the_first_row_for_the_body_from_it_up(self):
        """A body within itself: names belong to the nearer row."""
        table = (("number", 1), ("number", 2))
        rows = [(1, 1, -1), (4, 1, 0), (5, 0, 1), (6, 0, 1), (3, 0, 0)]
        nested = rows + [(4, 1, 3), (5, 0, 5), (6, 0, 5)]
        self.each("run let y 1 plus y y", table, (rows, []), (nested, [3]), ways=("need", "value"))
        self.each("run let y 1 plus y y", table, (nested + [(3, 0, 0)], [3]), (nested + [(3, 0, 0)] * 3, [0, 3]),
                  (rows + [(3, 0, 0)], []), ways=("name",))

    def test_a_name_that_is_the_body_itself(self):
        table = (("number", 1),)
        self.each("run let x 1 x", table, ([(1, 0, -1), (4, 0, 0), (3, 0, 0)], []), ([(1, 0, -1), (3, 0, 0)], [0]),
                  ([(1, 0, -1), (4, 0, 0)], [0]), ([(1, 0, -1), (4, 0, 0), (3, 0, 0), (3, 0, 1)], [0, 1][1:]))

    def test_names_have_nothing_under_them(self):
        table = (("number", 1),)
        self.each("run let x 1 x", table, ([(1, 0, -1), (4, 0, 0), (3, 0, 1)], [0, 1]))

    def test_mixtures_go_by_their_own_words(self):
        table = (("number", 1), ("number", 2))
        rows = [(1, 1, -1), (4, 1, 0), (5, 0, 1), (6, 0, 1), (3, 0, 0)]
        text = "run let y 1 plus y y"
        for word in WORDS:
            for its in WORDS:
                if word != its:
                    way = (word, ((("run", 1), its),))
                    self.check(text, way, table, rows, *([0] if its == "name" else []))
                    self.check(text, way, table, rows + [(3, 0, 0)], *([] if its == "name" else [0]))

    def test_entries_are_compared_by_what_they_tell(self):
        table = (("number", 1), ("number", 1), ("function", (((((1, 1),), 0), 1),)), ("number", 7))
        for use in (0, 1):
            for body in (0, 1):
                rows = [(1, use, -1), (2, 2, 0), (4, body, 1), (5, 1 - use, 0)]
                self.each("run call fun x x 1", table, (rows, []))
        table = (("number", 1), ("number", 1), ("number", 2),
                 ("function", (((((0, 1), (1, 1)), 2), 1),)), ("function", (((((0, 1),), 2), 1), ((((1, 1),), 2), 1))))
        rows = [(1, 2, -1), (2, 3, 0), (4, 2, 1), (5, 0, 2), (6, 0, 2), (7, 1, 0)]
        self.each("run call fun x plus x x 1", table, (rows, []), ways=("need", "value"))
        self.each("run call fun x plus x x 1", table, (rows + [(7, 0, 0)], []), ways=("name",))
        self.each("run call fun x plus x x 1", table, ([(1, 2, -1), (2, 4, 0)] + rows[2:], [0, 1]), ways=("need", "value"))


if __name__ == "__main__":
    unittest.main()
