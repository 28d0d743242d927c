"""Point 15, the bench, held to a second one that does all deeds anew; point 3 (j)."""

import importlib
import random
import unittest
from unittest import mock

from helpers import Refusals, any_values, refused
from plains import plain_sample
from programs import PROGRAMS
from samples import WORDS, sample, sample_ways
from slow import Hand, Slow, do, do_slowly, line_of, told_of, told_of_run, told_of_slow
from uselots import usage
from uselots.benches import Bench
from uselots.books import Book
from uselots.errors import (Amid, BadExpression, BadLine, BadMany, BadMost, BadPlace, BadProgram, BadWay, Ended, NoBlock,
                            NoPart, NotEnded, NothingToRedo, NothingToUndo, NotWatched, StuckAt, Watched, Wide)
from uselots.exchanges import exchanged, exchanged_run
from uselots.journals import journal
from uselots.pieces import pieces
from uselots.runs import Run, ended
from uselots.texts import Program, joined_text, parts_text

PARTS = "part twice fun x plus x x\npart four fun y call twice call twice y"
TEXT = PARTS + "\nrun call four 1"
SLOWER = "part twice fun x plus x plus x 0"
PAIRS = "part swap fun p pair second p first p\nrun let p call swap pair 1 2 plus first p second p"


class BesideASlowOne(unittest.TestCase):
    def go_through(self, program, way, seed, many):
        """Deeds, undo, redo, blocks by lot: what the bench tells is what just the standing deeds tell."""
        bench = Bench(program.text, way)
        hand = Hand(seed, program)
        lot = random.Random(seed)
        deeds, undone = [], []
        for _ in range(many):
            choice = lot.random()
            if choice < 0.1:
                self.assertEqual(do(bench, ("undo",)), (None,) if deeds else (NothingToUndo, None))
                if deeds:
                    undone.append(deeds.pop())
            elif choice < 0.18:
                self.assertEqual(do(bench, ("redo",)), (None,) if undone else (NothingToRedo, None))
                if undone:
                    deeds.append(undone.pop())
            else:
                deed = hand.deed(bench)
                told = do(bench, deed)
                self.assertEqual(told, do_slowly(Slow(program.text, way, deeds), deed), deed)
                if len(told) == 1:
                    deeds.append(deed)
                    undone = []
                    self.done[deed[0]] = self.done.get(deed[0], 0) + 1
                else:
                    self.refused[deed[0]] = self.refused.get(deed[0], 0) + 1
            self.assertEqual(told_of(bench), told_of_slow(Slow(program.text, way, deeds), len(deeds)), deeds)
        self.assertEqual(journal(bench).split("\n")[-len(deeds):] if deeds else [], [line_of(deed) for deed in deeds])
        while deeds:
            bench.undo()
            deeds.pop()
            self.assertEqual(told_of(bench), told_of_slow(Slow(program.text, way, deeds), len(deeds)), deeds)

    def test_by_lot(self):
        self.done, self.refused = {}, {}
        for seed in range(70):
            program = sample(seed)
            for number, way in enumerate(sample_ways(program, seed)[seed % 2::2]):
                with self.subTest(text=program.text, way=way):
                    self.go_through(program, way, 100 * seed + number, 14)
        self.assertGreater(min(self.done.values()), 20, self.done)
        self.assertGreater(min(self.refused.get(word, 0) for word in ("go", "back", "line", "bind", "learn", "watch")), 4)

    def test_plain_programs_and_those_by_hand(self):
        self.done, self.refused = {}, {}
        for seed, program in enumerate([plain_sample(seed) for seed in range(25)] + PROGRAMS):
            self.go_through(program, WORDS[seed % 3], seed, 14)


class Made(Refusals, unittest.TestCase):
    def test_at_first(self):
        for way in WORDS + (("need", ((("four", 4), "name"), (("run", 1), "value"))),):
            bench = Bench(TEXT, way)
            self.assertEqual([bench.program, bench.way, bench.watched, bench.deeds, len(bench)], [Program(TEXT), way, (), 0, 0])
            self.assertEqual(bench.run_now(), Run(Program(TEXT), way))
            self.assertEqual([bench.next_place(), bench.signs()], [("run", 1), ()])
        self.assertEqual(bench.book_now(), Book(PARTS, ("need", ((("four", 4), "name"),))))
        self.assertEqual(Bench(way="name", text="run 5").book_now(), Book("", "name"))

    def test_refused(self):
        for value in any_values():
            if type(value) is not str:
                self.assert_refused_equal(BadProgram, 0, Bench, value, None)
            if value not in WORDS:
                self.assert_refused(BadWay, value, Bench, TEXT, value)
        self.assert_refused_equal(BadProgram, 4, Bench, TEXT + "\n", "wish")


class Deeds(Refusals, unittest.TestCase):
    def setUp(self):
        self.bench = Bench(TEXT, "need")

    def assert_unchanged(self, kind, value, call, *told):
        """Refused, and all is as it was, also what can be done again."""
        self.bench.watch(("four", 6))
        self.bench.undo()
        before, lines = told_of(self.bench), journal(self.bench)
        self.assert_refused(kind, value, call, *told)
        self.assertEqual([told_of(self.bench), journal(self.bench)], [before, lines])
        self.bench.redo()
        self.assertIn(("four", 6), self.bench)
        self.bench.undo()

    def test_go_and_back(self):
        run = Run(Program(TEXT), "need")
        self.assertEqual([self.bench.go(most=5), run.go(5)], [5, 5])
        self.assertIsNone(self.bench.back(many=2))
        run.back(2)
        self.assertEqual(self.bench.run_now(), run)
        self.assertEqual([self.bench.go(100000), self.bench.go(1), self.bench.go(7)], [11, 0, 0])
        self.assertEqual([len(self.bench), self.bench.deeds, self.bench.next_place()], [14, 5, None])
        for value in any_values() + [0, 100001]:
            if type(value) is not int or not 1 <= value <= 100000:
                self.assert_unchanged(BadMost, value, self.bench.go, value)
        for value in any_values() + [0, 15, -1]:
            if type(value) is not int or not 1 <= value <= 14:
                self.assert_unchanged(BadMany, value, self.bench.back, value)
        self.bench.back(14)
        self.assert_unchanged(BadMany, 1, self.bench.back, 1)

    def test_line_at_the_beginning_amid_and_behind_the_end(self):
        for steps in range(15):
            bench = Bench(TEXT, "need")
            run = Run(Program(TEXT), "need")
            if steps:
                bench.go(steps)
                run.go(steps)
            if steps == 14:
                self.bench = bench
                self.assert_refused_equal(Ended, ("number", 4), bench.line, "twice", SLOWER)
                self.assert_unchanged(NoPart, "run", bench.line, "run", None)
                self.assert_unchanged(BadLine, "x", bench.line, "twice", "x")
                continue
            self.assertIsNone(bench.line(line=SLOWER, name="twice"))
            run = exchanged_run(run, "twice", SLOWER)
            self.assertEqual([bench.run_now(), told_of_run(bench.run_now())], [run, told_of_run(run)])
            self.assertEqual([bench.program, len(bench), bench.known()], [exchanged(Program(TEXT), "twice", SLOWER), steps, None])
            self.assert_refused_equal(BadMany, 1, bench.back, 1)
            bench.go(99)
            run.go(99)
            self.assertEqual([bench.run_now(), bench.known(), bench.next_place()], [run, None, None])
            self.assert_refused_equal(Amid, None, bench.learn)
            bench.back(len(run) - steps)
            self.assertEqual(len(bench), steps)

    def test_lines_several_times(self):
        """Also the very same one: it is exchanged, too."""
        line = Program(TEXT).line("twice")
        run = Run(Program(TEXT), "need")
        for number in range(3):
            self.bench.go(2)
            run.go(2)
            self.bench.line("twice", line)
            run = exchanged_run(run, "twice", line)
            self.bench.line("four", Program(TEXT).line("four"))
            run = exchanged_run(run, "four", Program(TEXT).line("four"))
            self.assertEqual(told_of_run(self.bench.run_now()), told_of_run(run))
        self.assertEqual([self.bench.program, self.bench.deeds], [Program(TEXT), 9])
        self.bench.go(99)
        self.assertEqual(self.bench.run_now().places[2], ("four'''", 4))
        for _ in range(2):
            self.bench.undo()
        self.assertEqual(self.bench.run_now().places[2], ("four''", 4))

    def test_line_refused(self):
        for value in any_values() + ["run", "nobody"]:
            self.assert_unchanged(NoPart, value, self.bench.line, value, SLOWER)
        for value in any_values() + [SLOWER + "\n", SLOWER + " 1", "part four fun x x", "twice fun x x"]:
            self.assert_unchanged(BadLine, value, self.bench.line, "twice", value)

    def test_what_of_the_book_falls(self):
        parts = ("part a fun x plus x 1\npart b fun x call a x\npart c fun x call b x\npart d fun x plus x 2\n"
                 "part e fun x pick 1 call a x call d x\npart r fun n pick n 0 call r plus n -1")
        text = f"{parts}\nrun plus call c 1 plus call d 1 plus call e 1 call r 2"
        for name, staying in (("a", "dr"), ("b", "ader"), ("c", "abder"), ("d", "abcr"), ("e", "abcdr"), ("r", "abcde")):
            bench = Bench(text, "need")
            bench.go(999)
            self.assertEqual(bench.learn(), 8)
            before = bench.book_now()
            bench.expression("plus call c 1 call d 1")
            bench.line(name, bench.program.line(name))
            told = bench.book_now()
            self.assertEqual(sorted(set(piece[0] for piece in told.pieces)), list(staying))
            self.assertEqual(told.pieces, tuple(piece for piece in before.pieces if piece[0] in staying))
        pairs = Bench("part two fun x pair x x\npart up fun x plus first x 1\npart id fun x x\n"
                      "run plus call up call two 1 first call id pair 3 4", "need")
        pairs.go(99)
        self.assertEqual([pairs.learn(), pairs.known()], [3, len(pairs)])
        pairs.back(1)
        self.assertEqual(pairs.known(), len(pairs) + 1)
        for name, line in (("id", "part id fun x x"), ("up", "part up fun y plus first y 1")):
            with pairs.block():
                pairs.line(name, line)
                self.assertIsNone(pairs.known())
                self.assertEqual(len(pairs.book_now()), 2)
                pairs.expression(pairs.program.line("run")[4:])
                self.assertIsNone(pairs.known())
        pairs.expression("first call id pair 3 4")
        self.assertIsNone(pairs.known())
        pairs.expression("plus call up call two 1 first call id pair 3 4")
        self.assertIsNotNone(pairs.known())

    def test_changes_of_the_way(self):
        """Those in the line that is exchanged, and in the line run when a run of another expression begins, are left out."""
        text = "part f fun x let y x plus y y\npart g fun x let y x plus y y\nrun plus call f 1 call g 2"
        changes = ((("f", 4), "name"), (("g", 4), "value"), (("run", 2), "value"))
        bench = Bench(text, ("need", changes))
        self.assertEqual(bench.book_now().way, ("need", changes[:2]))
        bench.line("f", "part f fun x let y x plus y y")
        self.assertEqual([bench.way, bench.book_now().way], [("need", changes[1:]), ("need", changes[1:2])])
        self.assertEqual(bench.run_now().way, ("need", ((("f'", 4), "name"),) + changes[1:]))
        bench.expression("call g 3")
        self.assertEqual([bench.way, bench.book_now().way, bench.run_now().way], [("need", changes[1:2])] * 3)
        bench.line("g", "part g fun x x")
        self.assertEqual([bench.way, bench.book_now().way], ["need", "need"])
        bench.bind(("name", ((("f", 4), "need"), (("run", 1), "value"))))
        self.assertEqual(bench.book_now().way, ("name", ((("f", 4), "need"),)))
        self.assertEqual(bench.run_now(), Run(bench.program, bench.way))

    def test_expression(self):
        self.bench.go(99)
        self.bench.learn()
        self.assertIsNone(self.bench.expression(text="call twice 9"))
        self.assertEqual([self.bench.program.text, len(self.bench), len(self.bench.book_now())], [PARTS + "\nrun call twice 9", 0, 3])
        self.assertEqual(self.bench.run_now(), Run(joined_text(PARTS, "call twice 9"), "need"))
        bad = ["", "plus 1", "call five 1", "5\n", "\n5", "5\nrun 6", "5 ", " 5", "let twice 1 2", "100", "plus " * 119 + "1",
               "run 5", "fun x"]
        for value in any_values() + bad:
            if value not in ("x", "1"):
                self.assert_unchanged(BadExpression, value, self.bench.expression, value)
        self.assert_unchanged(BadExpression, "x", self.bench.expression, "x")
        long = "plus 1 " * 29 + "1"
        self.bench.expression(long)
        wider = " ".join(["let x 1 plus x let x 1 pick x plus 1 2"] * 10) + " 1"
        self.assertGreater(len(wider.split(" ")), 120)
        self.assert_unchanged(BadExpression, wider, self.bench.expression, wider)
        deeper = "plus 1 " + long
        self.assert_unchanged(BadExpression, deeper, self.bench.expression, deeper)

    def test_expression_with_the_newest_lines(self):
        self.bench.go(3)
        self.bench.line("twice", SLOWER)
        self.assertIsNone(self.bench.known())
        self.bench.expression("call twice 9")
        self.assertEqual(self.bench.run_now(), Run(joined_text(parts_text(self.bench.program), "call twice 9"), "need"))
        self.assertEqual([self.bench.program.line("twice"), self.bench.known()], [SLOWER, 8])
        self.bench.go(99)
        self.assertEqual(self.bench.learn(), 1)

    def test_bind(self):
        self.bench.watch(("twice", 4))
        self.bench.watch(("run", 1))
        self.bench.go(99)
        self.bench.learn()
        self.assertIsNone(self.bench.bind(way="value"))
        self.assertEqual([self.bench.way, len(self.bench), self.bench.book_now(), self.bench.watched],
                         ["value", 0, Book(PARTS, "value"), (("twice", 4), ("run", 1))])
        self.assertEqual(self.bench.run_now(), Run(Program(TEXT), "value"))
        for value in any_values() + ["wish", ("need", ()), ("need", ((("run", 2), "name"),))]:
            if value not in WORDS:
                self.assert_unchanged(BadWay, value, self.bench.bind, value)
        self.bench.go(2)
        self.bench.line("twice", SLOWER)
        self.bench.bind("value")
        self.assertEqual([self.bench.program.line("twice"), len(self.bench)], [SLOWER, 0])
        self.bench.go(99)
        self.assertEqual([self.bench.learn(), len(self.bench.book_now())], [3, 3])

    def test_learn(self):
        for steps in (0, 3, 13):
            bench = Bench(TEXT, "need")
            if steps:
                bench.go(steps)
            self.assert_refused_equal(NotEnded, steps, bench.learn)
        self.bench.go(99)
        self.assertEqual([self.bench.learn(), self.bench.learn()], [3, 0])
        self.assertEqual(self.bench.book_now().pieces, pieces(Program(TEXT), "need", 99)[1:])
        self.bench.expression("plus call twice 1 call twice 7")
        self.bench.go(99)
        self.assertEqual(self.bench.learn(), 1)
        stuck = Bench(PARTS + "\nrun plus 1 call 2 3", "need")
        stuck.go(9)
        self.assert_refused_equal(StuckAt, ("run", 3), stuck.learn)
        self.assertEqual([stuck.known(), stuck.deeds], [None, 1])

    def test_learn_refuses_in_sequence(self):
        self.bench.go(3)
        self.bench.line("twice", "part twice fun x call 1 1")
        self.assert_unchanged(Amid, None, self.bench.learn)
        self.bench.go(99)
        self.assertEqual(self.bench.run_now().end[0], "stuck")
        self.assert_unchanged(Amid, None, self.bench.learn)
        table = Bench(TEXT, "need")
        table.go(99)
        with mock.patch.object(usage, "WIDEST", 1):
            self.assert_refused_equal(Wide, 1, table.learn)
        self.assertEqual(table.deeds, 1)

    def test_learn_just_as_long_as_may_be(self):
        self.bench.go(99)
        with mock.patch.object(importlib.import_module("uselots.benches"), "WIDEST_RUN", 13):
            self.assert_refused_equal(Wide, 13, self.bench.learn)
        with mock.patch.object(importlib.import_module("uselots.benches"), "WIDEST_RUN", 14):
            self.assertEqual(self.bench.learn(), 3)

    def test_learn_long_runs(self):
        text = "part s fun n pick n 0 plus 1 call s plus n -1\npart d fun x plus x x\nrun call s call d call d call d call d 99"
        bench = Bench(text, "value")
        bench.go(100000)
        self.assertLess(len(bench), 20000)
        self.assertEqual(bench.learn(), 1589)
        bench.expression("call s call d call d call d call d call d 80")
        bench.go(20000)
        self.assert_refused_equal(NotEnded, 20000, bench.learn)
        bench.go(100000)
        self.assertGreater(len(bench), 20000)
        self.assert_refused_equal(Wide, 20000, bench.learn)
        self.assertEqual(bench.known(), len(bench))

    def test_watch(self):
        self.assertIsNone(self.bench.watch(place=("twice", 5)))
        self.bench.watch(("run", 1))
        self.bench.watch(("four", 4))
        self.assertEqual(self.bench.watched, (("twice", 5), ("run", 1), ("four", 4)))
        self.bench.go(99)
        self.assertEqual(self.bench.signs(), ((("twice", 5), 2), (("four", 4), 1), (("run", 1), 1)))
        place = ("run", 1)
        self.assert_unchanged(Watched, place, self.bench.watch, place)
        for value in any_values() + [("run", 0), ("twice'", 4), ("twice", 3), ("twice", 7), ["run", 1]]:
            if value not in (("run", 1), ("run", 2), ("run", 3)) or type(value) is not tuple or type(value[1]) is not int:
                self.assert_unchanged(BadPlace, value, self.bench.watch, value)
                self.assert_unchanged(BadPlace, value, self.bench.unwatch, value)
                self.assertIs(value in self.bench, False)
        self.assertIs(("run", 1) in self.bench, True)
        self.assertIs(("run", True) in self.bench, False)
        self.assertIsNone(self.bench.unwatch(place=("run", 1)))
        self.assertEqual(self.bench.watched, (("twice", 5), ("four", 4)))
        self.assert_unchanged(NotWatched, place, self.bench.unwatch, place)
        self.bench.watch(place)
        self.assertEqual(self.bench.watched[-1], place)

    def test_watched_places_that_fall(self):
        for place in (("twice", 4), ("run", 1), ("four", 4), ("twice", 6)):
            self.bench.watch(place)
        self.bench.go(5)
        with self.bench.block():
            self.bench.line("twice", SLOWER)
            self.assertEqual(self.bench.watched, (("run", 1), ("four", 4)))
            self.bench.watch(("twice", 8))
            self.bench.go(99)
            # Steps of the elder line are none of this place.
            self.assertEqual(dict(self.bench.signs())[("twice", 8)], self.bench.run_now().places.count(("twice", 8)))
        with self.bench.block():
            self.bench.expression("call four 1")
            self.assertEqual(self.bench.watched, (("twice", 4), ("four", 4), ("twice", 6)))
        self.bench.bind("name")
        self.assertEqual(self.bench.watched, (("twice", 4), ("run", 1), ("four", 4), ("twice", 6)))

    def test_signs_with_elder_places(self):
        bench = Bench("part f fun x plus x 1\nrun plus call f 1 call f 2", "value")
        bench.go(4)
        self.assertEqual(bench.run_now().places[-1], ("run", 4))
        bench.line("f", "part f fun x plus x 1")
        bench.watch(("f", 4))
        bench.go(99)
        self.assertEqual(bench.signs(), ((("f", 4), 1),))
        self.assertEqual(bench.run_now().places.count(("f'", 4)), 1)


class Known(unittest.TestCase):
    def test_each_source(self):
        plain = Bench(TEXT, "need")
        self.assertEqual(plain.known(), 14)
        plain.go(3)
        self.assertEqual(plain.known(), 14)
        bench = Bench(PAIRS, "need")
        self.assertIsNone(bench.known())
        bench.go(5)
        self.assertIsNone(bench.known())
        bench.go(99)
        steps = len(bench)
        self.assertEqual(bench.known(), steps)
        bench.back(3)
        self.assertIsNone(bench.known())
        bench.go(3)
        bench.learn()
        bench.back(steps)
        self.assertEqual(bench.known(), steps)
        bench.bind("need")
        self.assertIsNone(bench.known())

    def test_pieces_of_several_expressions(self):
        """That of each is kept, and replaced by a newer one of the same; bind drops all."""
        bench = Bench(PAIRS, "need")
        steps = {}
        for text in ("first call swap pair 1 2", "second call swap pair 1 2", "call swap pair 1 2", "first call swap pair 1 2"):
            bench.expression(text)
            bench.go(99)
            bench.learn()
            steps[text] = len(bench)
        for text in steps:
            bench.expression(text)
            self.assertEqual(bench.known(), steps[text])
        bench.line("swap", "part swap fun p pair second p plus 0 first p")
        bench.expression("first call swap pair 1 2")
        self.assertIsNone(bench.known())
        bench.go(99)
        bench.learn()
        bench.expression("first call swap pair 1 2")
        self.assertEqual(bench.known(), steps["first call swap pair 1 2"])
        bench.expression("second call swap pair 1 2")
        self.assertIsNone(bench.known())
        bench.bind("need")
        bench.expression("first call swap pair 1 2")
        self.assertIsNone(bench.known())

    def test_ways_with_changes_in_the_runs_line(self):
        """The run's own piece is kept, but the Book's way has no such changes: whole may refuse it."""
        bench = Bench("part id fun x x\nrun first call id pair 1 2", ("need", ((("run", 2), "name"),)))
        bench.go(99)
        bench.learn()
        bench.back(1)
        self.assertEqual(bench.known(), len(bench) + 1)
        bench = Bench("part id fun x x\nrun let p call id pair 1 2 plus first p second p", ("need", ((("run", 1), "name"),)))
        bench.go(99)
        bench.learn()
        bench.back(1)
        self.assertIsNone(bench.known())

    def test_stuck_and_without_an_end(self):
        stuck = Bench("run plus 1 call 2 3", "need")
        self.assertIsNone(stuck.known())
        stuck.go(99)
        self.assertIsNone(stuck.known())
        loop = Bench("part loop fun x call loop x\npart one fun x 1\nrun call one call loop 3", "need")
        self.assertIsNone(loop.known())
        loop.go(99)
        self.assertEqual(loop.known(), 3)
        far = Bench("part t fun n pick n 1 plus call t plus n -1 call t plus n -1\nrun call t 99", "value")
        self.assertGreater(far.known(), 10 ** 30)
        many = Bench("part d fun n call d plus n -1\nrun call d 1", "value")
        self.assertIsNone(many.known())


class UndoAndBlocks(Refusals, unittest.TestCase):
    def setUp(self):
        self.bench = Bench(TEXT, "need")

    def test_nothing_to_undo_and_redo(self):
        self.assert_refused_equal(NothingToUndo, None, self.bench.undo)
        self.assert_refused_equal(NothingToRedo, None, self.bench.redo)
        self.assert_refused_equal(NoBlock, None, self.bench.keep)
        self.bench.go(3)
        self.assert_refused_equal(NothingToRedo, None, self.bench.redo)
        self.assertIsNone(self.bench.undo())
        self.assertIsNone(self.bench.redo())
        self.assertEqual(len(self.bench), 3)
        self.bench.undo()
        self.bench.watch(("run", 1))
        self.assert_refused_equal(NothingToRedo, None, self.bench.redo)
        self.bench.undo()
        self.assert_refused_equal(NothingToUndo, None, self.bench.undo)
        self.assertEqual(self.bench, Bench(TEXT, "need"))

    def test_deeds_of_every_kind(self):
        deeds = [("go", 5), ("back", 2), ("watch", ("twice", 4)), ("line", "twice", SLOWER), ("go", 99), ("expression", "call four 2"),
                 ("go", 99), ("learn",), ("watch", ("run", 1)), ("unwatch", ("run", 1)), ("bind", "name"), ("go", 4)]
        told = [told_of(self.bench)]
        for deed in deeds:
            do(self.bench, deed)
            told.append(told_of(self.bench))
        for number in range(len(deeds), 0, -1):
            self.assertEqual(told_of(self.bench), told[number])
            self.bench.undo()
        self.assertEqual(told_of(self.bench), told[0])
        for number in range(len(deeds)):
            self.bench.redo()
            self.assertEqual(told_of(self.bench), told[number + 1])

    def test_a_block_that_is_not_kept(self):
        self.bench.go(5)
        self.bench.watch(("run", 1))
        self.bench.undo()
        before, lines = told_of(self.bench), journal(self.bench)
        with self.bench.block() as held:
            self.assertIs(held, self.bench)
            held.go(3)
            held.bind("name")
            held.undo()
            held.undo()
            held.undo()
            self.assertEqual(len(held), 0)
        self.assertEqual([told_of(self.bench), journal(self.bench)], [before, lines])
        self.bench.redo()
        self.assertEqual(self.bench.watched, (("run", 1),))

    def test_a_block_that_is_kept(self):
        self.bench.go(5)
        with self.bench.block():
            self.bench.go(3)
            self.assertIsNone(self.bench.keep())
            self.bench.go(1)
        self.assertEqual([len(self.bench), self.bench.deeds], [9, 3])
        self.assert_refused_equal(NoBlock, None, self.bench.keep)
        self.bench.undo()
        self.bench.undo()
        self.assertEqual([len(self.bench), self.bench.deeds], [5, 1])
        self.bench.redo()
        self.assertEqual(len(self.bench), 8)

    def test_a_block_left_by_an_error(self):
        self.bench.go(5)
        before = told_of(self.bench)
        for kept in (True, False):
            with self.assertRaises(BadMost) as caught:
                with self.bench.block():
                    self.bench.go(3)
                    if kept:
                        self.bench.keep()
                    self.bench.go(0)
            self.assertEqual(caught.exception.value, 0)
            self.assertEqual(told_of(self.bench), before)
            with self.assertRaises(ZeroDivisionError):
                with self.bench.block() as held:
                    held.bind("name")
                    if kept:
                        held.keep()
                    1 // 0
            self.assertEqual(told_of(self.bench), before)
        self.assert_refused_equal(NoBlock, None, self.bench.keep)

    def test_blocks_within_blocks(self):
        for inner in (True, False):
            for outer in (True, False):
                bench = Bench(TEXT, "need")
                bench.go(1)
                with bench.block():
                    bench.go(1)
                    with bench.block():
                        bench.go(1)
                        if inner:
                            bench.keep()
                    self.assertEqual(len(bench), 3 if inner else 2)
                    bench.watch(("run", 1))
                    if outer:
                        bench.keep()
                    with bench.block():
                        bench.go(9)
                self.assertEqual(len(bench), 1 if not outer else 3 if inner else 2)
                self.assertEqual(bench.watched, (("run", 1),) if outer else ())
                self.assert_refused_equal(NoBlock, None, bench.keep)

    def test_undo_within_a_block(self):
        """Also what was done ahead of it; kept, it stays taken back."""
        for kept in (True, False):
            bench = Bench(TEXT, "need")
            bench.go(2)
            bench.go(3)
            with bench.block():
                bench.undo()
                self.assertEqual(len(bench), 2)
                bench.undo()
                self.assert_refused_equal(NothingToUndo, None, bench.undo)
                bench.redo()
                if kept:
                    bench.keep()
            self.assertEqual(len(bench), 2 if kept else 5)
            if kept:
                bench.redo()
                self.assertEqual(len(bench), 5)
            else:
                self.assert_refused_equal(NothingToRedo, None, bench.redo)
                bench.undo()
                self.assertEqual(len(bench), 2)

    def test_what_stands_behind_a_block_goes_on(self):
        self.bench.go(5)
        with self.bench.block():
            self.bench.go(99)
            self.bench.learn()
        self.assertEqual([len(self.bench), len(self.bench.book_now())], [5, 0])
        self.bench.go(1)
        run = ended(Program(TEXT), "need", 6)
        self.assertEqual([self.bench.run_now(), told_of_run(self.bench.run_now())], [run, told_of_run(run)])

    def test_tried(self):
        def look(bench):
            bench.go(4)
            return bench

        self.assertIs(self.bench.tried(look), self.bench)
        self.assertEqual(len(self.bench), 0)
        for value in any_values() + [1, "yes", [True]]:
            if value is not True:
                self.bench.tried(look, keep=value)
                self.assertEqual([len(self.bench), self.bench.deeds], [0, 0])
        self.bench.tried(look=look, keep=True)
        self.assertEqual([len(self.bench), self.bench.deeds], [4, 1])
        self.assertEqual(self.bench.tried(lambda bench: (bench.go(2), bench.keep(), len(bench))), (2, None, 6))
        self.assertEqual([len(self.bench), self.bench.deeds], [6, 2])
        self.assertEqual(self.bench.tried(len), 6)
        with self.assertRaises(TypeError):
            self.bench.tried(look, True)
        self.assert_refused_equal(NoBlock, None, self.bench.keep)

    def test_errors_in_tried_pass_on(self):
        def look(bench):
            bench.go(4)
            bench.keep()
            raise KeyError("mine")

        for keep in (True, False):
            with self.assertRaises(KeyError):
                self.bench.tried(look, keep=keep)
            self.assertEqual([len(self.bench), self.bench.deeds], [0, 0])
        self.assertEqual(refused(self.bench.tried, lambda bench: bench.go(0)), (BadMost, 0))
        self.assert_refused_equal(NoBlock, None, self.bench.keep)

    def test_keep_in_look_belongs_to_the_innermost(self):
        def look(bench):
            bench.go(1)
            with bench.block():
                bench.go(1)
                bench.keep()
            return len(bench)

        self.assertEqual(self.bench.tried(look), 2)
        self.assertEqual(len(self.bench), 0)
        with self.bench.block():
            self.assertEqual(self.bench.tried(look, keep=True), 2)
            self.assertEqual(len(self.bench), 2)
        self.assertEqual(len(self.bench), 0)


class Copies(Refusals, unittest.TestCase):
    def test_by_themselves(self):
        for seed in range(25):
            program = sample(seed)
            bench = Bench(program.text, "need")
            hand = Hand(seed, program)
            for _ in range(10):
                do(bench, hand.deed(bench))
            if bench.deeds > 2:
                bench.undo()
            twin = bench.copy()
            before = told_of(bench)
            self.assertTrue(twin == bench and twin is not bench)
            self.assertEqual(told_of(twin), before)
            for _ in range(10):
                do(twin, hand.deed(twin))
            self.assertEqual(told_of(bench), before)
            other = bench.copy()
            while other.deeds:
                other.undo()
                self.assertEqual(told_of(bench), before)
            self.assertEqual(told_of(other), told_of(Bench(program.text, "need")))

    def test_redo_in_copies(self):
        bench = Bench(TEXT, "need")
        bench.go(3)
        bench.watch(("run", 1))
        bench.undo()
        bench.undo()
        twin = bench.copy()
        twin.redo()
        self.assertEqual([len(twin), len(bench)], [3, 0])
        bench.redo()
        bench.redo()
        self.assertEqual([twin.watched, bench.watched], [(), (("run", 1),)])
        twin.redo()
        self.assertEqual(twin, bench)
        self.assert_refused_equal(NothingToRedo, None, twin.redo)

    def test_outside_of_all_blocks(self):
        bench = Bench(TEXT, "need")
        with bench.block():
            bench.go(3)
            twin = bench.copy()
            self.assert_refused_equal(NoBlock, None, twin.keep)
            twin.go(1)
            self.assertEqual([len(bench), len(twin)], [3, 4])
        self.assertEqual([len(bench), len(twin), twin.deeds], [0, 4, 2])

    def test_runs_and_books_by_themselves(self):
        bench = Bench(TEXT, "need")
        bench.go(99)
        bench.learn()
        run, book = bench.run_now(), bench.book_now()
        run.back(5)
        book.drop(*book.pieces[0][:2])
        self.assertEqual([len(bench), len(bench.book_now())], [14, 3])
        bench.back(14)
        bench.undo()
        self.assertEqual([len(run), len(book)], [9, 2])

    def test_equality(self):
        """By journals: by what was done, not by how things stand."""
        one, other = Bench(TEXT, "need"), Bench(TEXT, "need")
        self.assertTrue(one == other and not one != other)
        one.go(3)
        self.assertTrue(one != other)
        other.go(2)
        other.go(1)
        self.assertEqual(one.run_now(), other.run_now())
        self.assertTrue(one != other)
        other.undo()
        other.undo()
        other.go(3)
        other.watch(("run", 1))
        other.undo()
        self.assertTrue(one == other)
        self.assertNotEqual(Bench(TEXT, "need"), Bench(TEXT, "name"))
        self.assertNotEqual(Bench(TEXT, "need"), Bench(TEXT + "0", "need"))
        for value in any_values() + [journal(one)]:
            self.assertFalse(one == value)
            self.assertTrue(one != value)

    def test_shared_history_on_long_runs(self):
        text = "part s fun n pick n 0 plus n call s plus n -1\nrun call s call s 50"
        bench = Bench(text, "value")
        bench.go(400)
        bench.go(100000)
        twin = bench.copy()
        for _ in range(3):
            bench.undo()
            self.assertEqual(bench.run_now(), ended(Program(text), "value", 400))
            twin.undo()
            twin.undo()
            self.assertEqual(twin.run_now(), Run(Program(text), "value"))
            bench.redo()
            twin.redo()
            self.assertEqual(twin.run_now(), ended(Program(text), "value", 400))
            twin.redo()
        self.assertEqual([bench, bench.run_now()], [twin, twin.run_now()])


if __name__ == "__main__":
    unittest.main()
