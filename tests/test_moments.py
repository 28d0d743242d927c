"""Point 8: moments: what was bound, who looks at it, what is still to come."""

import random
import unittest
from unittest import mock

from helpers import Refusals, any_values
from programs import PROGRAMS, programs_and_ways
from samples import WORDS, sample
from tables import content, content_of, counted, is_tidy
from taps import Taps
from uselots import usage
from uselots.errors import BadMany, BadMost, BadWay, NoProgram, NotEnded, StuckAt, Wide
from uselots.moments import called, free_anew, free_early, left, looked, needed, over, still
from uselots.papers import paper
from uselots.runs import ended
from uselots.texts import Program, joined_text

MOST = 150
PLAIN = (looked, called, needed)
AT = (still, over, left)
FREE = (free_early, free_anew)
DUP = Program("part dup fun x plus x x\nrun let a plus 1 2 let b 5 call dup a")


def ending(many, most=MOST):
    """Programs, ways by which they end with a value within most steps, and their Taps."""
    for program, way in programs_and_ways(many):
        taps = Taps(program.text, way, most)
        if taps.end is not None and taps.end[0] != "stuck":
            yield program, way, taps


def run(text):
    return Program(f"run {text}")


def looks_at(program, way, step, half=0):
    return [looks for its, which, looks in looked(program, way, 1000) if (its, which) == (step, half)][0]


class Looked(unittest.TestCase):
    def test_beside_taps(self):
        for program, way, taps in ending(400):
            with self.subTest(text=program.text, way=way):
                things = sorted((thing.owner, thing.half, tuple(sorted(thing.looks))) for thing in taps.things)
                self.assertEqual(looked(program, way, MOST), tuple(things))

    def test_all_bound_things_are_there(self):
        for program, way, taps in ending(60):
            steps = ended(program, way, MOST).places
            told = []
            for step, place in enumerate(steps):
                halves = {"call": (0,), "let": (0,), "pair": (1, 2)}.get(program.word(place), ())
                told += [(step, half) for half in halves]
            self.assertEqual([(step, half) for step, half, _ in looked(program, way, MOST)], told)

    def test_nothing_is_bound(self):
        self.assertEqual([looked(run("plus 1 2"), way, 9) for way in WORDS], [()] * 3)

    def test_names_bound_again_within(self):
        program = run("let x 1 let x plus x 1 let x plus x x x")
        for way in ("need", "value"):
            things = looked(program, way, 99)
            self.assertEqual([len(looks) for _, _, looks in things], [1, 2, 1])
            places = ended(program, way, 99).places
            self.assertEqual([[places[step][1] for step in looks] for _, _, looks in things], [[7], [12, 13], [14]])
        shadow = run("let x 1 call fun x plus x x 5")
        self.assertEqual([len(looks) for _, _, looks in looked(shadow, "need", 99)], [0, 2])

    def test_a_let_has_not_its_own_name(self):
        self.assertEqual([looks for _, _, looks in looked(run("let x 1 let x x 5"), "value", 9)], [(3,), ()])

    def test_halves_that_come_by_several_names(self):
        program = run("let p pair plus 1 2 4 let q p plus first p plus first q second q")
        for way in ("need", "value"):
            places = ended(program, way, 99).places
            pairs = [step for step, place in enumerate(places) if program.word(place) == "pair"]
            self.assertEqual(len(pairs), 1)
            one, other = [looks_at(program, way, pairs[0], half) for half in (1, 2)]
            self.assertEqual([places[step][1] for step in one + other], [12, 15, 17])

    def test_pairs_made_anew_by_name(self):
        program = run("let p pair plus 1 2 4 plus first p plus first p second p")
        places = ended(program, "name", 99).places
        pairs = [step for step, place in enumerate(places) if program.word(place) == "pair"]
        told = [[[places[step][1] for step in looks_at(program, "name", pair, half)] for half in (1, 2)] for pair in pairs]
        self.assertEqual(told, [[[9], []], [[12], []], [[], [14]]])

    def test_a_half_is_looked_at_by_the_step_of_first(self):
        """It is told by this step's number, though the half comes much later."""
        program = run("first let p plus 1 2 pair p 5")
        self.assertEqual(looked(program, "need", 99), ((1, 0, (3,)), (2, 1, (0,)), (2, 2, ())))
        self.assertEqual([over(program, "need", 99, number) for number in (2, 3, 4)],
                         [(), ((2, 1), (2, 2)), ((1, 0), (2, 1), (2, 2))])

    def test_functions_keep_what_was_bound_around_them(self):
        program = run("let f let x 5 fun y plus x y plus call f 1 call f 2")
        for way, many in (("name", [1, 1]), ("need", [2]), ("value", [2])):
            places = ended(program, way, 99).places
            lets = [step for step, place in enumerate(places) if place == ("run", 3)]
            self.assertEqual([len(looks_at(program, way, step)) for step in lets], many)


class Called(unittest.TestCase):
    def test_beside_taps(self):
        for program, way, taps in ending(400):
            calls = tuple((step, tuple(sorted(taps.calls[step]))) for step in sorted(taps.calls))
            self.assertEqual(called(program, way, MOST), calls)

    def test_each_call_calls_just_one(self):
        for program, way, taps in ending(60):
            places = ended(program, way, MOST).places
            calls = [step for step, place in enumerate(places) if program.word(place) == "call"]
            self.assertEqual(sorted(step for _, steps in called(program, way, MOST) for step in steps), calls)

    def test_by_hand(self):
        program = run("let f fun x plus x 1 plus call f 1 call f 2")
        self.assertEqual([called(program, way, 99) for way in WORDS],
                         [((4, (2,)), (11, (9,))), ((4, (2, 9)),), ((1, (3, 9)),)])
        self.assertEqual(called(run("fun x x"), "need", 9), ((0, ()),))
        self.assertEqual(called(run("5"), "need", 9), ())
        part = Program("part f fun x x\nrun call call f f 1")
        self.assertEqual(called(part, "need", 99), ((2, (1,)), (4, (0,))))


class Still(unittest.TestCase):
    """still, over and left at each moment, beside what taps tell."""

    def test_beside_taps(self):
        for program, way, taps in ending(60, 80):
            contents = taps.contents()
            things = sorted(taps.things, key=lambda thing: (thing.owner, thing.half))
            for number in range(len(taps.rows) + 1):
                with self.subTest(text=program.text, way=way, number=number):
                    self.compare(program, way, number, things, contents)

    def compare(self, program, way, number, things, contents):
        ahead = [thing for thing in things if thing.owner < number]
        waited = [thing for thing in ahead if any(step >= number for step in thing.looks)]
        told = still(program, way, 80, number)
        self.assertEqual([(step, half) for step, half, _ in told], [(thing.owner, thing.half) for thing in waited])
        for thing, (_, _, (table, looks)) in zip(waited, told):
            self.assertTrue(is_tidy(table, [use for use, _ in looks]))
            made = counted([(contents[step], 1) for step in thing.looks if step >= number])
            self.assertEqual(content_of(table, looks, {}), made)
            self.assertEqual(looks, tuple(sorted(looks)))
        rest = [(thing.owner, thing.half) for thing in ahead if thing not in waited]
        self.assertEqual(over(program, way, 80, number), tuple(rest))

    def test_left(self):
        for program, way, taps in ending(60):
            places = [place for place, _ in taps.rows]
            for number in range(len(places) + 1):
                to_come = places[number:]
                told = tuple((place, to_come.count(place)) for place in program.places if place in to_come)
                self.assertEqual(left(program, way, MOST, number), (len(to_come), told))

    def test_rows_from_a_moment_on_are_to_come(self):
        """(a): behind k steps just the rows from k on."""
        for program, way, taps in ending(20):
            rows = paper(program, way, MOST)[1]
            for number in range(len(rows) + 1):
                many, told = left(program, way, MOST, number)
                self.assertEqual(many, len(rows[number:]))
                self.assertEqual(sorted(place for place, times in told for _ in range(times)),
                                 sorted(place for place, _, _ in rows[number:]))

    def test_at_the_ends(self):
        for way in WORDS:
            many = len(ended(DUP, way, 99))
            self.assertEqual((still(DUP, way, 99, 0), over(DUP, way, 99, 0), left(DUP, way, 99, 0)[0]), ((), (), many))
            things = tuple((step, half) for step, half, _ in looked(DUP, way, 99))
            self.assertEqual((still(DUP, way, 99, many), over(DUP, way, 99, many), left(DUP, way, 99, many)),
                             ((), things, (0, ())))

    def test_from_a_moment_on_counts_the_step_of_this_number(self):
        self.assertEqual(looks_at(DUP, "need", 2), (5, 10))
        told = [[its[2][1] for its in still(DUP, "need", 99, number) if its[0] == 2] for number in (2, 3, 5, 6, 10, 11)]
        self.assertEqual(told, [[], [((0, 2),)], [((0, 2),)], [((0, 1),)], [((0, 1),)], []])
        self.assertEqual([(2, 0) in over(DUP, "need", 99, number) for number in (2, 3, 10, 11)], [False] * 3 + [True])

    def test_uses_by_hand(self):
        program = run("let f fun x plus x 1 plus call f 1 call f 2")
        both = (("number", 1), ("number", 2), ("number", 3), ("function", (((((0, 1),), 1), 1),)),
                ("function", (((((1, 1),), 2), 1),)))
        self.assertEqual(still(program, "need", 99, 1), ((0, 0, (both, ((3, 1), (4, 1)))),))


class Needed(unittest.TestCase):
    def test_beside_taps(self):
        for program, way, taps in ending(400):
            many = {}
            for thing in taps.things:
                many.setdefault((taps.rows[thing.owner][0], thing.half), []).append(len(thing.looks))
            told = [(place, half, min(many[place, half]), max(many[place, half]))
                    for place in program.bindings for half in (0, 1, 2) if (place, half) in many]
            self.assertEqual(needed(program, way, MOST), tuple(told))

    def test_bound_nowhere_once_and_several_times(self):
        program = Program("part d fun x pick x 1 plus x x\npart e fun y pair 1 2\nrun plus call d 0 call d 2")
        told = ((("run", 2), 0, 1, 1), (("run", 5), 0, 3, 3))
        self.assertEqual([needed(program, way, 99) for way in WORDS], [told] * 3)
        program = Program("part d fun x let y x pick x 1 plus y y\nrun plus call d 0 call d 2")
        self.assertEqual(needed(program, "need", 99)[0], (("d", 4), 0, 0, 2))
        self.assertEqual(needed(program, "name", 99)[1:], ((("run", 2), 0, 1, 1), (("run", 5), 0, 3, 3)))
        self.assertEqual(needed(run("first pair 1 2"), "need", 9), ((("run", 2), 1, 1, 1), (("run", 2), 2, 0, 0)))
        self.assertEqual(needed(run("plus 1 2"), "need", 9), ())


class Free(unittest.TestCase):
    def places_that_fit(self, program, fits):
        many = {}
        for place, half, least, greatest in needed(program, "need", MOST):
            many.setdefault(place, []).append((least, greatest))
        return tuple(place for place in program.bindings if place in many and all(fits(*its) for its in many[place]))

    def by_need(self, many):
        for program in PROGRAMS + [sample(seed) for seed in range(many)]:
            run_there = ended(program, "need", MOST)
            if run_there.end is not None and run_there.end[0] != "stuck":
                yield program, run_there

    def test_what_they_are(self):
        for program, _ in self.by_need(300):
            self.assertEqual(free_early(program, MOST), self.places_that_fit(program, lambda least, most: least >= 1))
            self.assertEqual(free_anew(program, MOST), self.places_that_fit(program, lambda least, most: most <= 1))

    def test_their_own_word(self):
        """Bound so at some of these, and by need elsewhere, the run ends alike behind as many steps."""
        lot = random.Random(1)
        tried = 0
        for program, run_there in self.by_need(400):
            for places, word in ((free_early(program, MOST), "value"), (free_anew(program, MOST), "name")):
                for _ in range(4):
                    some = tuple(sorted((place, word) for place in places if lot.random() < 0.6))
                    if some:
                        tried += 1
                        other = ended(program, ("need", some), MOST)
                        self.assertEqual((other.end, len(other)), (run_there.end, len(run_there)), program.text)
        self.assertGreater(tried, 1000)

    def test_elsewhere_it_takes_more(self):
        program = run("let x plus 1 2 let y plus 3 4 let z 7 plus x plus y y")
        self.assertEqual((free_early(program, 99), free_anew(program, 99)),
                         ((("run", 1), ("run", 6)), (("run", 1), ("run", 11))))
        many = len(ended(program, "need", 99))
        self.assertGreater(len(ended(program, ("need", ((("run", 11), "value"),)), 99)), many)
        self.assertGreater(len(ended(program, ("need", ((("run", 6), "name"),)), 99)), many)

    def test_both_halves_count(self):
        self.assertEqual((free_early(run("first pair 1 2"), 9), free_anew(run("first pair 1 2"), 9)), ((), (("run", 2),)))
        both = run("let p pair 1 2 plus first p second p")
        self.assertEqual((free_early(both, 99), free_anew(both, 99)), ((("run", 1), ("run", 3)), (("run", 3),)))

    def test_where_nothing_was_bound(self):
        program = Program("part f fun x let y 1 y\nrun pick 0 5 call f 1")
        self.assertEqual((free_early(program, 9), free_anew(program, 9)), ((), ()))


class Names(unittest.TestCase):
    def test_names_do_not_matter(self):
        one = Program("part f fun x plus x x\npart g fun p first p\nrun let a pair 1 2 call f call g a")
        other = Program("part zz fun y first y\npart b fun q plus q q\nrun let g pair 1 2 call b call zz g")
        parts = {"f": "b", "g": "zz", "run": "run"}

        def renamed(rows):
            rows = [((parts[row[0][0]], row[0][1]), *row[1:]) for row in rows]
            return tuple(sorted(rows, key=lambda row: other.places.index(row[0])))

        for way in WORDS:
            self.assertEqual(looked(one, way, 99), looked(other, way, 99))
            self.assertEqual(called(one, way, 99), called(other, way, 99))
            self.assertEqual(needed(other, way, 99), renamed(needed(one, way, 99)))
            for number in range(len(ended(one, way, 99)) + 1):
                self.assertEqual(still(one, way, 99, number), still(other, way, 99, number))
                self.assertEqual(over(one, way, 99, number), over(other, way, 99, number))
                self.assertEqual(left(other, way, 99, number)[1], renamed(left(one, way, 99, number)[1]))


class Errors(Refusals, unittest.TestCase):
    STUCK = run("plus 1 call 2 3")

    def test_no_program(self):
        for value in any_values():
            if not isinstance(value, Program):
                for function in PLAIN:
                    self.assert_refused(NoProgram, value, function, value, None, None)
                for function in AT:
                    self.assert_refused(NoProgram, value, function, value, None, None, None)
                for function in FREE:
                    self.assert_refused(NoProgram, value, function, value, None)

    def test_bad_way(self):
        for value in any_values() + ["Need", ("need", ()), ("need", ((("run", 3), "name"),))]:
            if value not in WORDS:
                for function in PLAIN:
                    self.assert_refused(BadWay, value, function, DUP, value, None)
                for function in AT:
                    self.assert_refused(BadWay, value, function, DUP, value, None, None)

    def test_bad_most(self):
        for value in any_values() + [0, -1, 20001]:
            if type(value) is not int or not 1 <= value <= 20000:
                for program in (DUP, self.STUCK):
                    for function in PLAIN:
                        self.assert_refused(BadMost, value, function, program, "need", value)
                    for function in AT:
                        self.assert_refused(BadMost, value, function, program, "need", value, None)
                    for function in FREE:
                        self.assert_refused(BadMost, value, function, program, value)

    def test_not_ended_and_stuck_come_ahead_of_the_moment(self):
        many = len(ended(DUP, "need", 99))
        for number in (0, 1, many + 1, -1, None):
            for function in AT:
                self.assert_refused_equal(NotEnded, many - 1, function, DUP, "need", many - 1, number)
                self.assert_refused_equal(StuckAt, ("run", 3), function, self.STUCK, "need", 9, number)
        for function in PLAIN:
            self.assert_refused_equal(NotEnded, many - 1, function, DUP, "need", many - 1)
            self.assert_refused_equal(StuckAt, ("run", 3), function, self.STUCK, "need", 9)
            function(DUP, "need", many)
        for function in FREE:
            self.assert_refused_equal(NotEnded, many - 1, function, DUP, many - 1)
            self.assert_refused_equal(StuckAt, ("run", 3), function, self.STUCK, 9)
            function(DUP, many)

    def test_bad_many(self):
        for way in WORDS:
            many = len(ended(DUP, way, 99))
            for function in AT:
                for number in [many + 1, -1, True, False, "0", None, (0,), [0], 10 ** 8, *any_values()]:
                    if type(number) is int and 0 <= number <= many:
                        continue
                    self.assert_refused(BadMany, number, function, DUP, way, 99, number)
                for number in (0, 1, many - 1, many):
                    function(DUP, way, 99, number)

    def test_wide_is_raised_by_still_alone_and_last(self):
        part = "part lp fun f fun n pick n 0 plus call f n call call lp f plus n -1\npart d fun x plus x x"
        program = joined_text(part, "call call lp fun y plus y 1 call d call d call d 60")
        self.assert_refused_equal(Wide, 100000, still, program, "need", 20000, 0)
        self.assert_refused(BadMany, -1, still, program, "need", 20000, -1)
        self.assertGreater(len(looked(program, "need", 20000)), 1000)
        self.assertGreater(len(called(program, "need", 20000)), 480)
        self.assertEqual(over(program, "need", 20000, 0), ())
        self.assertGreater(left(program, "need", 20000, 0)[0], 4000)
        self.assertEqual(needed(program, "need", 20000)[0][:2], (("lp", 10), 0))
        free_early(program, 20000)
        free_anew(program, 20000)
        with mock.patch.object(usage, "WIDEST", 3):
            self.assert_refused_equal(Wide, 3, still, run("let f fun x x plus call f 1 call f 2"), "need", 99, 11)

    def test_arguments_by_name(self):
        for function in PLAIN:
            self.assertEqual(function(most=99, way="need", program=DUP), function(DUP, "need", 99))
        for function in AT:
            self.assertEqual(function(number=3, most=99, way="need", program=DUP), function(DUP, "need", 99, 3))
        for function in FREE:
            self.assertEqual(function(most=99, program=DUP), function(DUP, 99))


class Long(unittest.TestCase):
    def test_thousands_of_steps(self):
        parts = "part d fun x plus x x\npart s fun n pick n 0 plus n call s plus n -1"
        program = joined_text(parts, "call s " + "call d " * 4 + "80")
        many = len(ended(program, "need", 20000))
        self.assertGreater(many, 10000)
        self.assertEqual(left(program, "need", 20000, many // 2)[0], many - many // 2)
        told = still(program, "need", 20000, many // 2)
        self.assertEqual(len(told) + len(over(program, "need", 20000, many // 2)),
                         len([step for step, _, _ in looked(program, "need", 20000) if step < many // 2]))
        self.assertTrue(all(content(table, use, {})[0] == "number" for _, _, (table, looks) in told for use, _ in looks))


if __name__ == "__main__":
    unittest.main()
