"""Points 12 and 5: parts exchanged amid a run, beside a second machine; equality of such runs."""

import random
import unittest

from helpers import Refusals, any_values, refused
from programs import PROGRAMS
from samples import WORDS, Maker, sample, sample_ways
from swapping import Swapping
from uselots.errors import BadLine, BadMany, BadPlace, BadWay, Ended, NoPart
from uselots.exchanges import exchanged, exchanged_run
from uselots.runs import Run, ended
from uselots.texts import Program

MOST = 120
TWICE = Program("part twice fun x plus x x\nrun plus call twice 3 call twice 4")
SLOWER = "part twice fun x plus x plus x 0"


def all_of(run):
    """All that a run tells."""
    return (run.program, run.way, run.end, run.next, run.places, run.unders, run.begins, len(run), run.sight(), run.pile())


def swaps_for(program, seed):
    """Some exchanges of parts by lot, numbers of steps ascending, each line one that fits behind those ahead of it."""
    lot = random.Random(seed)
    told, number = [], 0
    for _ in range(lot.randint(1, 4)):
        if not program.parts:
            break
        number += lot.choice((0, 1, 2, 3, 5, 8, 13))
        name = lot.choice(program.parts)
        words = program.line(name).split(" ")
        maker = Maker(seed)
        maker.text()
        lines = [" ".join(words), " ".join(words[:4] + ["let", "q", "0"] + words[4:])]
        if name in maker.parts:
            maker.lot = lot
            lines.append(f"part {name} fun y " + maker.e(maker.parts[name][2], {"y": maker.parts[name][1]}, 3))
        line = lot.choice(lines)
        if refused(exchanged, program, name, line) is None:
            program = exchanged(program, name, line)
            told.append((number, name, line))
    return told


class BesideAnother(unittest.TestCase):
    def compare(self, program, way, swaps):
        """Whether the run stood behind the last exchange; all that it tells from then on is held to the other machine."""
        run = Run(program, way)
        done = []
        for number, name, line in swaps:
            if number > len(run):
                run.go(number - len(run))
            if run.next is None:
                return False
            before = all_of(run)
            newer = exchanged_run(run, name, line)
            self.assertEqual(all_of(run), before)
            run = newer
            done.append((number, name, line))
        floor = len(run)
        told = Swapping(program.text, way, MOST, done)
        for number in range(floor, len(told.moments)):
            place, sight, pile = told.moments[number]
            self.assertEqual((run.next, run.sight(), run.pile(), run.end, len(run)), (place, sight, pile, None, number))
            if number < MOST:
                self.assertEqual(run.step(), place)
        self.assertEqual(run.end, told.end)
        self.assertEqual((run.unders, run.begins), (tuple(told.unders), tuple(told.begins)))
        self.assertEqual(run.places, tuple(place for place, _, _ in told.moments[:len(run)]))
        self.back_and_on(run, floor, told)
        return True

    def back_and_on(self, run, floor, told):
        last = all_of(run)
        self.assertEqual([all_of(run.copy()), run.copy()], [last, run])
        many = len(run) - floor
        lot = random.Random(many)
        while len(run) > floor:
            run.back(lot.randint(1, len(run) - floor))
            place, sight, pile = told.moments[len(run)]
            self.assertEqual((run.next, run.sight(), run.pile(), run.end), (place, sight, pile, None))
        if many:
            self.assertEqual(run.go(many), many)
        self.assertEqual(all_of(run), last)

    def test_by_lot(self):
        many = {True: 0, False: 0}
        for seed in range(400):
            program = sample(seed)
            for number, way in enumerate(sample_ways(program, seed)):
                swaps = swaps_for(program, 10 * seed + number)
                if swaps:
                    with self.subTest(text=program.text, way=way, swaps=swaps):
                        many[self.compare(program, way, swaps)] += 1
        self.assertGreater(many[True], 500)

    def test_programs_by_hand(self):
        many = 0
        for seed, program in enumerate(PROGRAMS):
            for way in WORDS:
                for turn in range(6):
                    swaps = swaps_for(program, 100 * seed + turn)
                    if swaps:
                        many += self.compare(program, way, swaps)
        self.assertGreater(many, 100)


class ByHand(Refusals, unittest.TestCase):
    def test_at_the_beginning(self):
        """At moment 0 all is the newer line's; only the way may tell of the elder one."""
        run = exchanged_run(Run(TWICE, "need"), "twice", SLOWER)
        run.go(99)
        newer = ended(exchanged(TWICE, "twice", SLOWER), "need", 99)
        self.assertEqual(all_of(run), all_of(newer))
        self.assertTrue(run != newer)

    def test_places_of_steps_done(self):
        run = ended(TWICE, "need", 5)
        self.assertEqual([run.places[-1], run.next], [("twice", 5), ("run", 4)])
        amid = exchanged_run(run=run, line=SLOWER, name="twice")
        self.assertEqual(amid.places, (("run", 1), ("run", 2), ("run", 3), ("twice'", 4), ("twice'", 5)))
        self.assertEqual([run.places[-1], run.program, amid.program.line("twice")], [("twice", 5), TWICE, SLOWER])
        self.assertEqual([amid.step(), amid.next, amid.go(3)], [("run", 4), ("twice'", 6), 3])
        self.assertEqual(amid.places[6:], (("twice'", 6), ("run", 5), ("run", 6)))
        self.assertEqual(amid.next, ("twice", 4))
        again = exchanged_run(amid, "twice", SLOWER)
        self.assertEqual(again.places[3:7], (("twice''", 4), ("twice''", 5), ("run", 4), ("twice''", 6)))
        # This call's function was made ahead: its line is an elder one now, marked once.
        self.assertEqual([again.next, again.go(99), again.end], [("twice'", 4), 6, ("number", 14)])
        self.assertEqual(again.places[9:], (("twice'", 4), ("twice'", 5), ("run", 7), ("twice'", 6), ("twice'", 7), ("twice'", 8)))

    def test_ahead_of_the_last_step(self):
        many = len(ended(TWICE, "need", 99))
        run = exchanged_run(ended(TWICE, "need", many - 1), "twice", SLOWER)
        self.assertEqual([run.next, run.step(), run.end, len(run)], [("twice'", 6), ("twice'", 6), ("number", 14), many])

    def test_functions_and_pairs_of_elder_lines(self):
        program = Program("part make fun x pair fun y plus x y x\npart id fun z z\nrun let p call make 3 let q p call id first q")
        run = ended(program, "value", 99)
        made = run.places.index(("run", 4))
        amid = exchanged_run(ended(program, "value", made + 7), "make", "part make fun x x")
        # p is bound by now.
        while len(amid.sight()) == 0:
            amid.step()
        self.assertIn(("p", ("pair", ("make'", 4))), amid.sight())
        amid.go(99)
        self.assertEqual(amid.end, ("function", ("make'", 5)))
        self.assertEqual(run.end, ("function", ("make", 5)))
        stuck = Program("part bad fun x plus x fun y y\nrun let f bad plus 1 call f 1")
        amid = exchanged_run(ended(stuck, "value", 2), "bad", "part bad fun x 1")
        amid.go(99)
        self.assertEqual(amid.end, ("stuck", ("bad'", 4)))
        self.assertEqual(refused(amid.step), (Ended, ("stuck", ("bad'", 4))))

    def test_a_name_that_is_worked_out_from_now_on(self):
        """By need what waits is worked out later: its NAME is the newer line's; by value it was made ahead."""
        program = Program("part one fun x 1\nrun let f one plus call f 0 call f 0")
        line = "part one fun x 5"
        need = exchanged_run(ended(program, "need", 1), "one", line)
        value = exchanged_run(ended(program, "value", 2), "one", line)
        name = exchanged_run(ended(program, "name", 5), "one", line)
        for run in (need, value, name):
            run.go(99)
        self.assertEqual([need.end, value.end, name.end], [("number", 10), ("number", 2), ("number", 6)])

    def test_ways(self):
        program = Program("part f fun x let y plus x 1 plus y y\npart g fun x let y x plus y y\nrun plus call f 1 plus call g 2 call f 3")
        way = ("need", ((("f", 4), "name"), (("g", 4), "value"), (("run", 2), "value")))
        run = exchanged_run(ended(program, way, 3), "f", "part f fun x let y plus x 1 plus y y")
        self.assertEqual(run.way, ("need", ((("f'", 4), "name"), (("g", 4), "value"), (("run", 2), "value"))))
        # The elder line goes on to bind by name, the newer one binds by the word of the way.
        again = exchanged_run(run, "f", program.line("f"))
        self.assertEqual(again.way[1][0], (("f''", 4), "name"))
        other = exchanged_run(again, "g", "part g fun x 1")
        self.assertEqual(other.way, ("need", ((("f''", 4), "name"), (("g'", 4), "value"), (("run", 2), "value"))))
        run.go(99)
        self.assertEqual([run.places.count(("f'", 6)), run.places.count(("f", 6))], [2, 1])
        whole = ended(program, way, 99)
        self.assertEqual(whole.places.count(("f", 6)), 4)
        for word in WORDS:
            self.assertEqual(exchanged_run(Run(program, word), "f", "part f fun x 1").way, word)
        early = exchanged_run(ended(program, way, 1), "f", "part f fun x let y plus x 1 plus y y")
        early.go(99)
        self.assertEqual([early.places.count(("f'", 6)), early.places.count(("f", 6))], [0, 2])

    def test_the_ways_sequence(self):
        program = Program("part f fun x let y x y\npart f2 fun x let y x y\nrun plus call f 1 call f2 2")
        way = ("need", ((("f", 4), "name"), (("f2", 4), "name")))
        run = exchanged_run(Run(program, way), "f2", "part f2 fun x x")
        self.assertEqual(run.way, ("need", ((("f", 4), "name"), (("f2'", 4), "name"))))
        run = exchanged_run(run, "f", "part f fun x x")
        self.assertEqual(run.way, ("need", ((("f'", 4), "name"), (("f2'", 4), "name"))))
        self.assertEqual(list(run.way[1]), sorted(run.way[1]))

    def test_back_no_farther_than_to_the_exchange(self):
        run = exchanged_run(ended(TWICE, "need", 6), "twice", SLOWER)
        for value in (1, 0, -1, 6, True, None):
            self.assert_refused(BadMany, value, run.back, value)
        run.go(4)
        self.assert_refused(BadMany, 5, run.back, 5)
        run.back(4)
        self.assertEqual([len(run), run.next], [6, ("twice'", 6)])
        run.go(3)
        copied = run.copy()
        self.assert_refused(BadMany, 4, copied.back, 4)
        copied.back(3)
        self.assertEqual([len(copied), len(run)], [6, 9])
        again = exchanged_run(run, "twice", SLOWER)
        self.assert_refused(BadMany, 1, again.back, 1)
        again.go(2)
        again.back(2)
        self.assertEqual(len(again), 9)

    def test_refused(self):
        for run in (Run(TWICE, "need"), ended(TWICE, "need", 4), ended(TWICE, "need", 99)):
            before = all_of(run)
            for value in any_values() + ["x", "twice'", "run"]:
                self.assert_refused(NoPart, value, exchanged_run, run, value, None)
                self.assert_refused(BadLine, value, exchanged_run, run, "twice", value)
            self.assertEqual(all_of(run), before)
        for program, end in ((TWICE, ("number", 14)), (Program("part twice fun x x\nrun call 1 2"), ("stuck", ("run", 1)))):
            run = ended(program, "need", 99)
            self.assert_refused_equal(Ended, end, exchanged_run, run, "twice", SLOWER)
            self.assert_refused(BadLine, "part f", exchanged_run, run, "twice", "part f")

    def test_elder_places_are_told_alone(self):
        run = exchanged_run(ended(TWICE, "need", 6), "twice", SLOWER)
        self.assert_refused_equal(BadPlace, ("twice'", 4), run.program.word, ("twice'", 4))
        program = Program("part f fun x let y x y\nrun call f 1")
        run = exchanged_run(Run(program, ("need", ((("f", 4), "name"),))), "f", "part f fun x let y x y")
        self.assert_refused(BadWay, run.way, Run, run.program, run.way)
        self.assertEqual(len(run.copy()), 0)

    def test_long_runs(self):
        program = Program("part s fun n pick n 0 plus n call s plus n -1\npart d fun x plus x x\n"
                          "run call s call d call d call d call d call d call d 9")
        for way in ("need", "value"):
            run = exchanged_run(ended(program, way, 2000), "s", "part s fun n pick n 7 call s plus n -1")
            run.go(100000)
            self.assertIsNotNone(run.end)
            self.assertGreater(run.places.count(("s'", 7)), 100)
            self.assertGreater(run.places.count(("s", 7)), 100)


class Equality(unittest.TestCase):
    def amid(self, *swaps, program=TWICE, way="need", more=0):
        run = Run(program, way)
        for number, name, line in swaps:
            if number > len(run):
                run.go(number - len(run))
            run = exchanged_run(run, name, line)
        if more:
            run.go(more)
        return run

    def test_exchanged_alike(self):
        line = TWICE.line("twice")
        for swaps in ([(0, "twice", line)], [(4, "twice", SLOWER)], [(4, "twice", SLOWER), (4, "twice", line)],
                      [(2, "twice", line), (9, "twice", SLOWER)]):
            for more in (0, 2, 99):
                one, other = self.amid(*swaps, more=more), self.amid(*swaps, more=more)
                self.assertTrue(one == other and not one != other)
                self.assertEqual(one, one.copy())

    def test_exchanged_otherwise(self):
        line = TWICE.line("twice")
        runs = [self.amid(), self.amid((0, "twice", line)), self.amid((0, "twice", line), (0, "twice", line)),
                self.amid((0, "twice", SLOWER)), self.amid((0, "twice", SLOWER), (0, "twice", line))]
        for at, one in enumerate(runs):
            for number, other in enumerate(runs):
                self.assertEqual(one == other, at == number)
        self.assertNotEqual(self.amid((3, "twice", line), more=4), self.amid((4, "twice", line), more=3))
        self.assertNotEqual(self.amid((3, "twice", line), more=4), self.amid((3, "twice", line), more=3))
        two = Program("part a fun x x\npart b fun x x\nrun plus call a 1 call b 2")
        swaps = [(1, "a", "part a fun y y"), (1, "b", "part b fun y y")]
        self.assertNotEqual(self.amid(*swaps, program=two), self.amid(*reversed(swaps), program=two))
        self.assertEqual(self.amid(*swaps, program=two), self.amid(*swaps, program=Program(two.text)))

    def test_begun_as_unlike_ones(self):
        """The same program and way now, but not at first."""
        other = Program(TWICE.text.replace("plus x x", "plus x 3"))
        one, another = self.amid((0, "twice", SLOWER)), self.amid((0, "twice", SLOWER), program=other)
        self.assertEqual([one.program, one.way, len(one)], [another.program, another.way, len(another)])
        self.assertTrue(one != another)
        program = Program("part f fun x let y x y\nrun call f 1")
        way = ("need", ((("f", 4), "name"),))
        swap = (0, "f", "part f fun x x")
        self.assertNotEqual(self.amid(swap, program=program, way=way), self.amid(swap, program=program))
        for value in any_values():
            self.assertFalse(one == value)


if __name__ == "__main__":
    unittest.main()
