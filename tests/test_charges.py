"""Point 14: charges; point 3 (h)."""

import unittest

from helpers import Refusals, any_values
from programs import PROGRAMS, programs_and_ways
from reference import Reference
from samples import WORDS
from uselots.charges import begun, by_line, by_place, callers, dearest_path, longest, path
from uselots.errors import BadMany, BadMost, BadWay, NoProgram, NotEnded, StuckAt
from uselots.runs import ended
from uselots.texts import Program

MOST = 300
FOUR = Program("part twice fun x plus x x\nrun call twice call twice 3")
ALL = (begun, by_place, by_line, callers, dearest_path, longest)


def ending(many):
    for program, way in programs_and_ways(many):
        run = ended(program, way, MOST)
        if run.end is not None and run.end[0] != "stuck":
            yield program, way, run


def above(begins, step):
    """The steps from one up to step 0, itself too."""
    steps = []
    while step >= 0:
        steps.append(step)
        step = begins[step]
    return steps


class BesideRuns(unittest.TestCase):
    def test_steps(self):
        """By what is above each step, one by one."""
        for program, way, run in ending(80):
            paths = [above(run.begins, step) for step in range(len(run))]
            sizes = [0] * len(run)
            for steps in paths:
                for step in steps:
                    sizes[step] += 1
            self.assertEqual(begun(program, way, MOST), tuple(sizes))
            for number, steps in enumerate(paths):
                if number % 7 == 0 or number == len(run) - 1:
                    self.assertEqual(path(program, way, MOST, number), tuple(reversed(steps)))
            lengths = [len(steps) for steps in paths]
            self.assertEqual(longest(program, way, MOST), (max(lengths), lengths.index(max(lengths))))
            dearest = [0]
            while True:
                further = [step for step in range(len(run)) if run.begins[step] == dearest[-1]]
                if not further:
                    break
                dearest.append(max(further, key=lambda step: (sizes[step], -step)))
            self.assertEqual(dearest_path(program, way, MOST), tuple(dearest))

    def test_places_and_lines(self):
        nested = 0
        for program, way, run in ending(80):
            paths = [above(run.begins, step) for step in range(len(run))]
            seen = [set(run.places[step] for step in steps) for steps in paths]
            told = by_place(program, way, MOST)
            self.assertEqual([place for place, _, _ in told], [place for place in program.places if place in run.places])
            for place, times, whole in told:
                self.assertEqual((times, whole), (run.places.count(place), sum(place in places for places in seen)))
                nested += any(run.places[step] == place and place in seen[run.begins[step]]
                              for step in range(1, len(run)))
            lines = [set(place[0] for place in places) for places in seen]
            by_name = by_line(program, way, MOST)
            self.assertEqual([name for name, _, _ in by_name],
                             [name for name in program.parts + ("run",) if name in [place[0] for place in run.places]])
            for name, own, whole in by_name:
                self.assertEqual(own, sum(place[0] == name for place in run.places))
                self.assertEqual(whole, sum(name in names for names in lines))
        self.assertGreater(nested, 50)

    def test_callers(self):
        """By the second machine: which of its steps began a part's body."""
        many = 0
        for program, way, run in ending(80):
            other = Reference(program.text, way, MOST)
            counts = {}
            for step, began in enumerate(other.begins):
                place = other.moments[step][0]
                if place[0] != "run" and place[1] == 4:
                    key = (place[0], other.moments[began][0])
                    counts[key] = counts.get(key, 0) + 1
            told = callers(program, way, MOST)
            self.assertEqual({(name, place): times for name, place, times in told}, counts)
            order = [(program.parts.index(name), program.places.index(place)) for name, place, _ in told]
            self.assertEqual(order, sorted(order))
            self.assertTrue(all(program.word(place) == "call" for _, place, _ in told))
            many += len(told) > 1
        self.assertGreater(many, 20)

    def test_sums(self):
        for program, way, run in ending(80):
            sizes = begun(program, way, MOST)
            self.assertEqual(sizes[0], len(run))
            self.assertEqual(sum(times for _, times, _ in by_place(program, way, MOST)), len(run))
            self.assertEqual(sum(own for _, own, _ in by_line(program, way, MOST)), len(run))
            for step in range(len(run)):
                below = [sizes[other] for other in range(len(run)) if run.begins[other] == step]
                self.assertEqual(sizes[step], 1 + sum(below))
            self.assertEqual(by_line(program, way, MOST)[-1][0::2], ("run", len(run)))


class ByHand(unittest.TestCase):
    def test_beneath_one_another(self):
        """A part that calls itself: each step is counted once for it."""
        program = Program("part sum fun n pick n 0 plus n call sum plus n -1\nrun plus 1 call sum 3")
        run = ended(program, "value", 99)
        whole = {place: its for place, _, its in by_place(program, "value", 99)}
        times = {place: its for place, its, _ in by_place(program, "value", 99)}
        self.assertEqual([times[("sum", 4)], times[("sum", 9)]], [4, 3])
        # All but plus 1, its number, the call, the NAME and the argument stand beneath the first body.
        self.assertEqual(whole[("sum", 4)], len(run) - 5)
        self.assertGreater(whole[("sum", 7)], whole[("sum", 9)])
        self.assertEqual(by_line(program, "value", 99), (("sum", len(run) - 5, len(run) - 5), ("run", 5, len(run))))
        self.assertEqual(callers(program, "value", 99), (("sum", ("sum", 9), 3), ("sum", ("run", 3), 1)))

    def test_the_sequence_of_callers(self):
        program = Program("part z fun x plus x 1\npart a fun x call z x\nrun plus call z 1 plus call a 2 call z call a 3")
        told = callers(way="need", most=99, program=program)
        self.assertEqual(told, (("z", ("a", 4), 2), ("z", ("run", 2), 1), ("z", ("run", 9), 1), ("a", ("run", 6), 1),
                                ("a", ("run", 11), 1)))
        self.assertEqual([name for name, _, _ in by_line(program, "need", 99)], ["z", "a", "run"])

    def test_functions_that_are_called_by_others(self):
        """The call begins the body, whoever made the function; a fun that is no part's has no callers."""
        program = Program("part app fun f call f 1\npart inc fun x plus x 1\nrun plus call app inc call app fun y y")
        self.assertEqual(callers(program, "need", 99),
                         (("app", ("run", 2), 1), ("app", ("run", 5), 1), ("inc", ("app", 4), 1)))
        self.assertEqual(callers(Program("run call fun x x 1"), "need", 9), ())

    def test_one_step(self):
        program = Program("part f fun x x\nrun 5")
        for way in WORDS:
            self.assertEqual([look(program, way, 1) for look in ALL],
                             [(1,), ((("run", 1), 1, 1),), (("run", 1, 1),), (), (0,), (1, 0)])
            self.assertEqual(path(program, way, 1, 0), (0,))

    def test_the_first_of_several(self):
        program = Program("run plus plus 1 2 plus 3 4")
        self.assertEqual(dearest_path(program, "need", 9), (0, 1, 2))
        self.assertEqual(longest(program, "need", 9), (3, 2))
        self.assertEqual(longest(Program("run plus 1 plus 3 4"), "need", 9), (3, 3))
        self.assertEqual(dearest_path(Program("run plus 1 plus 3 4"), "need", 9), (0, 2, 3))

    def test_long_and_deep_runs(self):
        deep = Program("part s fun n pick n 0 plus n call s plus n -1\npart d fun x plus x x\n"
                       "run call s call d call d call d call d call d call d call d 31")
        for way in ("need", "value"):
            run = ended(deep, way, 100000)
            self.assertGreater(len(run), 30000)
            sizes = begun(deep, way, 100000)
            self.assertEqual([len(sizes), sizes[0]], [len(run), len(run)])
            many, number = longest(deep, way, 100000)
            self.assertGreater(many, 10000)
            steps = path(deep, way, 100000, number)
            self.assertEqual([len(steps), steps[0], steps[-1]], [many, 0, number])
            self.assertEqual(sum(times for _, times, _ in by_place(deep, way, 100000)), len(run))
            self.assertEqual(callers(deep, way, 100000)[0][:2], ("s", ("s", 9)))
            self.assertGreater(len(dearest_path(deep, way, 100000)), 1000)
        name = Program("part t fun n pick n 1 plus call t plus n -1 call t plus n -1\nrun call t 6")
        self.assertEqual(begun(name, "name", 100000)[0], len(ended(name, "name", 100000)))

    def test_programs_by_hand(self):
        for program in PROGRAMS:
            for way in WORDS:
                run = ended(program, way, 2000)
                if run.end is not None and run.end[0] != "stuck":
                    self.assertEqual(len(begun(program, way, 2000)), len(run))


class Refused(Refusals, unittest.TestCase):
    def test_errors_in_sequence(self):
        stuck = Program("run plus 1 call 2 3")
        for look in ALL + (lambda program, way, most: path(program, way, most, None),):
            for value in any_values():
                if not isinstance(value, Program):
                    self.assert_refused(NoProgram, value, look, value, None, None)
                if value not in WORDS:
                    self.assert_refused(BadWay, value, look, stuck, value, None)
                if type(value) is not int or not 1 <= value <= 100000:
                    self.assert_refused(BadMost, value, look, stuck, "need", value)
            for value in (0, -1, 100001, True):
                self.assert_refused(BadMost, value, look, FOUR, "need", value)
            self.assert_refused_equal(NotEnded, 10, look, FOUR, "need", 10)
            self.assert_refused_equal(NotEnded, 3, look, stuck, "need", 3)
            self.assert_refused_equal(StuckAt, ("run", 3), look, stuck, "need", 4)
        for look in ALL:
            look(FOUR, "need", 11)
            look(FOUR, "need", 100000)

    def test_bad_many(self):
        for value in any_values() + [-1, 11, 12, True]:
            if type(value) is not int or not 0 <= value <= 10:
                self.assert_refused(BadMany, value, path, FOUR, "need", 99, value)
        self.assertEqual(path(number=10, most=11, way="need", program=FOUR), (0, 2, 10))


if __name__ == "__main__":
    unittest.main()
