"""Point 9: ways beside one another; point 3 (d), that need is least."""

import itertools
import unittest
from unittest import mock

from helpers import Refusals, any_values
from programs import PROGRAMS, programs_and_ways
from samples import WORDS, sample, sample_ways
from taps import Taps
from uselots import usage
from uselots.errors import BadMost, BadPlaces, BadWay, NoProgram, NotEnded, StuckAt, Wide
from uselots.papers import paper
from uselots.runs import ended
from uselots.texts import Program, joined_text
from uselots.ways import alike_ways, cheapest, counts, dearest, least_times, mixtures, three

MOST = 150
TWICE = Program("part twice fun x plus x x\nrun call twice plus 1 2")
LAZY = Program("part one fun x 5\npart on fun x call on x\nrun call one call on 0")
STUCK = Program("run plus 1 call 2 3")
# By value it is stuck, by name and by need it ends.
EAGER = Program("run let x call 1 2 let y plus 1 2 plus y y")


def is_value(end):
    return end is not None and end[0] != "stuck"


def run(text):
    return Program(f"run {text}")


class Counts(unittest.TestCase):
    def test_beside_runs(self):
        for program, way in programs_and_ways(300):
            told = ended(program, way, MOST)
            if is_value(told.end):
                here = tuple((place, told.places.count(place)) for place in program.places if place in told.places)
                self.assertEqual(counts(program, way, MOST), here)
                self.assertEqual(sum(times for _, times in here), len(paper(program, way, MOST)[1]))

    def test_by_hand(self):
        self.assertEqual(counts(run("pick 0 5 6"), "name", 3), ((("run", 1), 1), (("run", 2), 1), (("run", 3), 1)))
        self.assertEqual([times for _, times in counts(TWICE, "name", 99)], [1, 1, 1, 1, 1, 2, 2, 2])


class Three(unittest.TestCase):
    def test_beside_runs(self):
        kinds = set()
        for program in PROGRAMS + [sample(seed) for seed in range(300)]:
            for most in (1, 7, 40, MOST):
                told = []
                for word in WORDS:
                    here = ended(program, word, most)
                    told.append(("going", most) if here.end is None else (here.end, len(here)))
                    kinds.add(here.end and here.end[0])
                self.assertEqual(three(program, most), tuple(told))
        self.assertEqual(kinds, {None, "number", "function", "pair", "stuck"})

    def test_ends_is_stuck_goes_on(self):
        self.assertEqual(three(EAGER, 99), ((("number", 6), 9 + 2), (("number", 6), 8), (("stuck", ("run", 3)), 3)))
        self.assertEqual(three(LAZY, 3), ((("number", 5), 3), (("number", 5), 3), ("going", 3)))
        self.assertEqual(three(STUCK, 3), (("going", 3),) * 3)
        self.assertEqual(three(STUCK, 4), ((("stuck", ("run", 3)), 4),) * 3)


class LeastTimes(unittest.TestCase):
    def test_beside_counts(self):
        kinds = set()
        for program, way in programs_and_ways(300):
            need = ended(program, "need", MOST)
            if not is_value(need.end):
                continue
            told = ended(program, way, MOST)
            here = least_times(program, way, MOST)
            kinds.add((here[0], here[1] and here[1][0] if here[0] == "ends not" else ""))
            if is_value(told.end):
                more = [(place, told.places.count(place) - need.places.count(place)) for place in program.places]
                self.assertEqual(here, ("least", tuple((place, times) for place, times in more if times)))
            elif told.end is None:
                self.assertEqual(here, ("ends not", ("going", MOST)))
            else:
                self.assertEqual(here, ("ends not", told.end))
        self.assertEqual(kinds, {("least", ""), ("ends not", "going"), ("ends not", "stuck")})

    def test_no_place_is_come_to_less_often(self):
        """(d)"""
        for program, way in programs_and_ways(500):
            told = ended(program, way, MOST)
            if is_value(told.end):
                need = ended(program, "need", MOST)
                self.assertEqual(need.end, told.end)
                for place in program.places:
                    self.assertLessEqual(need.places.count(place), told.places.count(place))

    def test_a_place_that_need_does_not_come_to(self):
        program = run("let x plus 1 2 5")
        self.assertEqual(least_times(program, "value", 9), ("least", tuple((("run", at), 1) for at in (3, 4, 5))))
        self.assertEqual(least_times(program, "need", 9), ("least", ()))

    def test_ends_not(self):
        self.assertEqual(least_times(EAGER, "value", 99), ("ends not", ("stuck", ("run", 3))))
        self.assertEqual(least_times(LAZY, "value", 50), ("ends not", ("going", 50)))
        self.assertEqual(least_times(TWICE, "name", 10), ("ends not", ("going", 10)))
        self.assertEqual(least_times(TWICE, "name", 11)[0], "least")


class Mixtures(Refusals, unittest.TestCase):
    def test_none(self):
        self.assertEqual(mixtures(TWICE, ()), ("need",))
        self.assertEqual(mixtures(run("1"), ()), ("need",))

    def test_one(self):
        place = ("run", 1)
        self.assertEqual(mixtures(TWICE, (place,)), (("need", ((place, "name"),)), "need", ("need", ((place, "value"),))))

    def test_the_first_place_changes_slowest(self):
        one, other = ("run", 1), ("run", 4)
        told = mixtures(run("let x 1 let y 2 plus x y"), (one, other))
        words = [("name", "name"), ("name", "need"), ("name", "value"), ("need", "name"), ("need", "need"),
                 ("need", "value"), ("value", "name"), ("value", "need"), ("value", "value")]
        for way, (first, second) in zip(told, words):
            changes = tuple((place, word) for place, word in ((one, first), (other, second)) if word != "need")
            self.assertEqual(way, ("need", changes) if changes else "need")
        self.assertEqual(len(told), 9)

    def test_up_to_six(self):
        program = run("let a 1 let b 2 let c 3 let d 4 let e 5 let f 6 let g 7 plus a b")
        for many in range(7):
            for some in itertools.combinations(sorted(program.bindings), many):
                told = mixtures(program, some)
                self.assertEqual((len(told), len(set(told))), (3 ** many, 3 ** many))
                for way in told[:9] + told[-9:]:
                    ended(program, way, 1)
                self.assertEqual(told[3 ** many // 2], "need")
        self.assert_refused(BadPlaces, some := tuple(sorted(program.bindings)), mixtures, program, some)

    def test_ascending_as_python_sorts(self):
        program = Program("part z fun x call x x\npart a fun x call x x\nrun call z a")
        some = (("a", 4), ("run", 1), ("z", 4))
        self.assertEqual(len(mixtures(program, some)), 27)
        self.assertEqual(mixtures(program, some)[0], ("need", tuple((place, "name") for place in some)))
        self.assert_refused(BadPlaces, wrong := (("z", 4), ("a", 4), ("run", 1)), mixtures, program, wrong)

    def test_bad_places(self):
        one, other = ("run", 1), ("run", 6)
        program = run("let x plus 1 2 pair x 4")
        mixtures(program, (one, other))
        for some in any_values() + [[one], [one, other], (other, one), (one, one), (("run", 3),), (("run", 7),), (one, None),
                                    (("run", True),), (["run", 1],), (("run", 2),), (("run", 9),), (("run", 1, 1),), one,
                                    (("f", 1),), {one: 1}, (one, [other]), (("run", "1"),), ((("run", 1),),)]:
            if some != ():
                for function, more in ((mixtures, ()), (cheapest, (None,)), (dearest, (None,))):
                    self.assert_refused(BadPlaces, some, function, program, some, *more)


class CheapestAndDearest(Refusals, unittest.TestCase):
    def all_of(self, program, some, most):
        """(way, steps) of the mixtures that end with a value, and how many don't."""
        told = [(way, ended(program, way, most)) for way in mixtures(program, some)]
        fine = [(way, len(here)) for way, here in told if is_value(here.end)]
        return fine, len(told) - len(fine)

    def test_beside_all_mixtures(self):
        several, others = 0, 0
        for seed, program in enumerate(PROGRAMS + [sample(seed) for seed in range(150)]):
            if not is_value(ended(program, "need", MOST).end):
                continue
            for some in (tuple(sorted(program.bindings)[:3]), tuple(sorted(program.bindings)[-2:])):
                fine, more = self.all_of(program, some, MOST)
                fewest, most = [pick(steps for _, steps in fine) for pick in (min, max)]
                first = [row for row in fine if row[1] == fewest][0]
                last = [row for row in fine if row[1] == most][0]
                self.assertEqual(cheapest(program, some, MOST), first)
                self.assertEqual(dearest(program, some, MOST), (*last, more))
                several += [steps for _, steps in fine].count(fewest) > 1
                others += more > 0
        self.assertGreater(min(several, others), 10)

    def test_several_take_as_many_steps(self):
        program = run("let x 1 x")
        name = ("need", ((("run", 1), "name"),))
        self.assertEqual(cheapest(program, (("run", 1),), 9), (name, 3))
        self.assertEqual(dearest(program, (("run", 1),), 9), (name, 3, 0))
        program = run("let x plus 1 2 let y 3 plus x plus x y")
        some = (("run", 1), ("run", 6))
        self.assertEqual(cheapest(program, some, 99), (("need", ((("run", 6), "name"),)), 11))
        self.assertEqual(dearest(program, some, 99), (("need", ((("run", 1), "name"), (("run", 6), "name"))), 14, 0))

    def test_some_do_not_end_within_most(self):
        self.assertEqual(dearest(LAZY, (("run", 1),), 50), (("need", ((("run", 1), "name"),)), 3, 1))
        self.assertEqual(cheapest(LAZY, (("run", 1), ("run", 3)), 50)[1], 3)
        self.assertEqual(dearest(EAGER, (("run", 1), ("run", 6)), 99)[1:], (11, 3))
        some = (("run", 1),)
        self.assertEqual(dearest(TWICE, some, 11), (("need", ((some[0], "name"),)), 11, 0))
        self.assertEqual(dearest(TWICE, some, 10), ("need", 8, 1))
        self.assertEqual(cheapest(TWICE, some, 8), ("need", 8))

    def test_without_places(self):
        self.assertEqual((cheapest(TWICE, (), 99), dearest(TWICE, (), 99)), (("need", 8), ("need", 8, 0)))

    def test_six_places(self):
        program = run("let a 1 let b 2 let c 3 let d 4 let e 5 let f 6 plus f f")
        some = program.bindings
        self.assertEqual(cheapest(program, some, 99)[1], 10)
        self.assertEqual(dearest(program, some, 99)[1:], (16, 0))


def shared(program, one, other, most):
    """What alike_ways tells, by taps."""
    told = []
    for way in (one, other):
        taps = Taps(program.text, way, most)
        by_place = {}
        for (place, _), use in zip(taps.rows, taps.contents()):
            by_place.setdefault(place, {}).setdefault(use, 0)
            by_place[place][use] += 1
        told.append(by_place)
    here, there = told
    for place in program.places:
        if sum(here.get(place, {}).values()) != sum(there.get(place, {}).values()):
            return ("apart", place)
    for place in program.places:
        if here.get(place) != there.get(place):
            return ("uses", place)
    return ("alike",)


class AlikeWays(Refusals, unittest.TestCase):
    USES = Program("part f fun c let g fun y y pick c 0 plus call g 1 call g 2\nrun plus call f 0 call f 1")
    ONE, OTHER = [("need", ((("f", 4), word),)) for word in ("name", "value")]

    def test_beside_taps(self):
        kinds = {"alike": 0, "apart": 0, "uses": 0}
        for seed, program in enumerate(PROGRAMS + [self.USES] + [sample(seed) for seed in range(250)]):
            ways = [way for way in sample_ways(program, seed) if is_value(ended(program, way, MOST).end)]
            for one in ways:
                for other in ways:
                    told = alike_ways(program, one, other, MOST)
                    self.assertEqual(told, shared(program, one, other, MOST))
                    kinds[told[0]] += 1
        self.assertGreater(min(kinds["alike"], kinds["apart"]), 100)

    def test_uses(self):
        self.assertEqual(alike_ways(self.USES, self.ONE, self.OTHER, 99), ("uses", ("f", 6)))
        self.assertEqual(alike_ways(self.USES, self.OTHER, self.ONE, 99), ("uses", ("f", 6)))
        self.assertEqual(shared(self.USES, self.ONE, self.OTHER, 99), ("uses", ("f", 6)))

    def test_tables_whose_numbers_differ_though_they_tell_the_same(self):
        """By value one table has a function of which nothing is made, and so other numbers for all that tells the same."""
        told = []
        for way in (self.ONE, self.OTHER):
            table, rows = paper(self.USES, way, 99)
            told.append((table, [use for place, use, _ in rows if place == ("f", 4)]))
        (table, uses), (beside, others) = told
        self.assertNotEqual(uses, others)
        self.assertEqual([table[use] for use in uses], [beside[use] for use in others])
        self.assertLess(self.USES.places.index(("f", 4)), self.USES.places.index(("f", 6)))
        self.assertEqual(alike_ways(self.USES, self.ONE, self.OTHER, 99), ("uses", ("f", 6)))

    def test_alike_with_rows_in_another_sequence(self):
        self.assertEqual(alike_ways(run("let x plus 1 2 plus x x"), "need", "value", 99), ("alike",))
        self.assertEqual(alike_ways(run("let x plus 1 2 plus x x"), "need", "need", 99), ("alike",))

    def test_apart_goes_ahead_of_uses(self):
        program = joined_text("\n".join(self.USES.text.split("\n")[:-1]), "let z 5 plus call f 0 call f 1")
        one = ("need", self.ONE[1])
        other = ("need", self.OTHER[1] + ((("run", 1), "value"),))
        self.assertEqual(alike_ways(program, one, other, 99), ("apart", ("run", 3)))

    def test_errors_of_one_ahead_of_those_of_other(self):
        self.assert_refused_equal(NotEnded, 50, alike_ways, LAZY, "need", "value", 50)
        self.assert_refused_equal(NotEnded, 50, alike_ways, LAZY, "value", "need", 50)
        self.assert_refused_equal(StuckAt, ("run", 3), alike_ways, EAGER, "need", "value", 50)
        self.assert_refused_equal(StuckAt, ("run", 3), alike_ways, EAGER, "value", "need", 50)
        self.assert_refused_equal(NotEnded, 10, alike_ways, EAGER, "name", "value", 10)
        self.assert_refused_equal(StuckAt, ("run", 3), alike_ways, EAGER, "value", "name", 10)

    def test_wide_comes_last(self):
        told = run("let f fun x x plus call f 1 call f 2")
        wide = sum(len(lot) + sum(len(asked[0]) for asked, _ in lot)
                   for kind, lot in paper(told, "need", 99)[0] if kind == "function")
        for one, other in itertools.product(WORDS, WORDS):
            with mock.patch.object(usage, "WIDEST", wide):
                self.assertIn(alike_ways(told, one, other, 99)[0], ("alike", "apart"))
            with mock.patch.object(usage, "WIDEST", wide - 1):
                if {one, other} == {"name"}:
                    continue
                self.assert_refused_equal(Wide, wide - 1, alike_ways, told, one, other, 99)
        with mock.patch.object(usage, "WIDEST", 0):
            self.assert_refused_equal(StuckAt, ("run", 3), alike_ways, EAGER, "need", "value", 50)


class Errors(Refusals, unittest.TestCase):
    CALLS = ((counts, ("need", 9)), (three, (9,)), (least_times, ("need", 9)), (mixtures, ((),)), (cheapest, ((), 9)),
             (dearest, ((), 9)), (alike_ways, ("need", "need", 9)))

    def test_no_program(self):
        for value in any_values():
            if not isinstance(value, Program):
                for function, told in self.CALLS:
                    self.assert_refused(NoProgram, value, function, value, *[None] * len(told))

    def test_bad_way(self):
        for value in any_values() + ["Need", ("need", ()), ("need", ((("run", 3), "name"),))]:
            if value not in WORDS:
                for function in (counts, least_times):
                    self.assert_refused(BadWay, value, function, TWICE, value, None)
                self.assert_refused(BadWay, value, alike_ways, TWICE, value, [], None)
                self.assert_refused(BadWay, value, alike_ways, TWICE, "need", value, None)

    def test_bad_most(self):
        for value in any_values() + [0, -1, 20001, 100000]:
            if type(value) is not int or not 1 <= value <= 20000:
                for function, told in self.CALLS:
                    if function is not mixtures:
                        for program in (TWICE, STUCK):
                            self.assert_refused(BadMost, value, function, program, *told[:-1], value)

    def test_not_ended_and_stuck(self):
        for function, told in self.CALLS:
            if function not in (mixtures, three):
                self.assert_refused_equal(NotEnded, 7, function, TWICE, *told[:-1], 7)
                self.assert_refused_equal(StuckAt, ("run", 3), function, STUCK, *told[:-1], 4)
                function(TWICE, *told[:-1], 8)
        self.assert_refused_equal(NotEnded, 10, counts, TWICE, "name", 10)

    def test_those_of_least_times_are_of_the_run_by_need(self):
        self.assert_refused_equal(NotEnded, 7, least_times, TWICE, "name", 7)
        self.assertEqual(least_times(TWICE, "name", 8), ("ends not", ("going", 8)))

    def test_arguments_by_name(self):
        place = ("run", 1)
        self.assertEqual(counts(most=9, way="need", program=TWICE), counts(TWICE, "need", 9))
        self.assertEqual(three(most=9, program=TWICE), three(TWICE, 9))
        self.assertEqual(least_times(most=9, way="need", program=TWICE), ("least", ()))
        self.assertEqual(mixtures(some=(place,), program=TWICE), mixtures(TWICE, (place,)))
        self.assertEqual(cheapest(most=9, some=(place,), program=TWICE), ("need", 8))
        self.assertEqual(dearest(most=9, some=(), program=TWICE), ("need", 8, 0))
        self.assertEqual(alike_ways(most=9, other="value", one="need", program=TWICE), ("alike",))


class Long(unittest.TestCase):
    def test_thousands_of_steps(self):
        parts = "part d fun x plus x x\npart s fun n pick n 0 plus n call s plus n -1"
        program = joined_text(parts, "call s " + "call d " * 4 + "80")
        told = three(program, 20000)
        self.assertEqual((told[0], told[1][0], told[2][0]), (("going", 20000), ("number", 9999), ("number", 9999)))
        self.assertEqual(least_times(program, "value", 20000), ("least", ()))
        self.assertEqual(least_times(program, "name", 20000), ("ends not", ("going", 20000)))
        self.assertEqual(alike_ways(program, "need", "value", 20000), ("alike",))
        self.assertEqual(sum(times for _, times in counts(program, "need", 20000)), told[1][1])


if __name__ == "__main__":
    unittest.main()
