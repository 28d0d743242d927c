"""Point 15, the desk; point 3 (j)."""

import unittest

from helpers import Refusals, any_values, refused
from programs import PROGRAMS
from samples import sample
from slow import Hand, do, line_of, told_of
from uselots.benches import Bench
from uselots.desk import Desk
from uselots.errors import (Amid, BadExpression, BadJournal, BadLine, BadMany, BadMost, BadPlace, BadTask, BadWay, Ended, NoPart,
                            NotEnded, NothingToRedo, NothingToUndo, NotWatched, StuckAt, Watched)
from uselots.journals import journal

TEXT = "part twice fun x plus x x\nrun call twice plus 1 2"
START = TEXT + "\nway need\ndeeds"
SLOWER = "part twice fun x plus x plus x 0"


class Lines(Refusals, unittest.TestCase):
    def setUp(self):
        self.desk = Desk(START)

    def said(self, *lines):
        return [self.desk.say(line) for line in lines]

    def test_deeds(self):
        told = self.said("watch run 1", "go 3", "back 2", "go 100", "learn", "learn", "unwatch run 1", "expression call twice 7",
                         "go 2", f"line twice {SLOWER}", "bind name", "undo", "redo", "go 100000")
        self.assertEqual(told, ["done", "3", "done", "7", "1", "0", "done", "done", "2", "done", "done", "done", "done", "9"])
        self.assertEqual(self.desk.bench.deeds, 12)
        self.assertEqual(self.said("go 1"), ["0"])

    def test_next_and_steps(self):
        self.assertEqual(self.said("next", "steps", "go 3", "next", "steps", "go 99", "next", "steps"),
                         ["run 1", "0", "3", "twice 5", "3", "5", "-", "8"])
        self.said("back 2", f"line twice {SLOWER}")
        self.assertEqual(self.said("next", "go 1", "next", "steps"), ["run 5", "1", "twice' 6", "7"])

    def test_pieces(self):
        self.assertEqual(self.said("pieces", "go 99", "pieces", "learn", "pieces", "bind name", "pieces"),
                         ["0", "8", "0", "1", "1", "done", "0"])

    def test_ends(self):
        for expression, end in (("5", "number 5"), ("-3", "number -3"), ("fun x x", "function run 1"), ("twice", "function twice 2"),
                                ("pair 1 2", "pair run 1"), ("let z 1 pair z z", "pair run 4"), ("call 1 2", "stuck run 1"),
                                ("call twice twice", "stuck twice 4")):
            self.said("expression " + expression)
            self.assertEqual(self.said("end")[0], "-")
            self.assertEqual(self.said("go 99", "end")[1], end)
        self.said("expression let f twice pair f f", "go 1", "line twice part twice fun x x", "go 9")
        self.assertEqual(self.said("end"), ["pair run 4"])
        self.desk = Desk("part twice fun x plus x x\nrun let f twice call f f\nway need\ndeeds\ngo 4")
        self.assertEqual(self.said("line twice part twice fun x 1", "go 99", "end")[2], "stuck twice' 4")

    def test_sight(self):
        self.assertEqual(self.said("sight"), ["none"])
        self.desk = Desk("part id fun x x\nrun let a plus 1 2 let b id let c pair a b let d 4 plus a d\nway value\ndeeds")
        answers = []
        while self.said("next") != ["-"]:
            answers.append(self.said("sight")[0])
            self.said("go 1")
        self.assertEqual(self.said("sight"), ["none"])
        self.assertEqual(answers[-1], "d number 4 ; c pair run 11 ; b function id 2 ; a number 3")
        self.said("bind need", "go 4")
        self.assertEqual(self.said("sight"), ["d waits run 16 ; c waits run 11 ; b waits run 8 ; a waits run 3"])
        self.desk = Desk("run let x 1 let x 2 x\nway need\ndeeds")
        self.said("go 2")
        self.assertEqual(self.said("sight"), ["x waits run 6"])

    def test_signs(self):
        self.assertEqual(self.said("signs", "watch twice 5", "signs", "watch run 1", "watch twice 4", "go 99", "signs"),
                         ["none", "done", "twice 5 0", "done", "done", "8", "twice 4 1 ; twice 5 1 ; run 1 1"])

    def test_known(self):
        self.assertEqual(self.said("known", "go 3", "known", "go 99", "known"), ["8", "3", "8", "5", "8"])
        self.assertEqual(self.said("back 3", f"line twice {SLOWER}", "known", "expression call twice 4", "known"),
                         ["done", "done", "-", "done", "8"])
        self.assertEqual(self.said("expression fun x x", "known", "go 1", "known"), ["done", "-", "1", "1"])

    def test_bad_task(self):
        bad = ["", " ", "go", "go ", "go x", "go 1 ", "go 01", "go  1", "back", "line", "line twice", "expression", "bind", "learn 1", "learn ",
               "watch", "watch run", "watch run x", "watch run 1 1", "unwatch 1", "undo ", "redo 1", " undo", "next ", "Next", "steps 1",
               "end?", "sights", "known ", "deeds", "way need", "run 1", "keep", "block", "copy", "journal", "go 1\n", "\ngo 1",
               "expression 5\n", "learn\n", "undo\nundo", f"line twice {SLOWER}\n", "bind need run 1", "bind need run x name", "-", "none"]
        before = told_of(self.desk.bench)
        for value in any_values() + bad:
            self.assert_refused(BadTask, value, self.desk.say, value)
        self.assertEqual(told_of(self.desk.bench), before)

    def test_what_the_bench_raises(self):
        for line, kind, value in (("go 0", BadMost, 0), ("go -5", BadMost, -5), ("back 1", BadMany, 1), ("back -1", BadMany, -1),
                                  ("line nobody x", NoPart, "nobody"), ("line  x", NoPart, ""), ("line twice x", BadLine, "x"),
                                  ("line twice ", BadLine, ""), ("expression ", BadExpression, ""), ("expression  5", BadExpression, " 5"),
                                  ("bind wish", BadWay, "wish"), ("bind ", BadWay, ""), ("learn", NotEnded, 0),
                                  ("bind x f 5 y", BadWay, ("x", ((("f", 5), "y"),))),
                                  ("bind need run 1 name run 1 name", BadWay, ("need", ((("run", 1), "name"), (("run", 1), "name")))),
                                  ("bind   5 ", BadWay, ("", ((("", 5), ""),))),
                                  ("watch run 0", BadPlace, ("run", 0)), ("watch  5", BadPlace, ("", 5)), ("watch run -1", BadPlace, ("run", -1)),
                                  ("unwatch run 1", NotWatched, ("run", 1)), ("undo", NothingToUndo, None), ("redo", NothingToRedo, None)):
            self.assert_refused_equal(kind, value, self.desk.say, line)
            self.assertEqual(self.desk.bench.deeds, 0)
        self.said("watch run 1")
        self.assert_refused_equal(Watched, ("run", 1), self.desk.say, "watch run 1")
        self.said("go 99")
        self.assert_refused_equal(Ended, ("number", 6), self.desk.say, f"line twice {SLOWER}")
        self.said("back 1", f"line twice {SLOWER}")
        self.assert_refused_equal(Amid, None, self.desk.say, "learn")
        self.said("expression call 1 1", "go 9")
        self.assert_refused_equal(StuckAt, ("run", 1), self.desk.say, "learn")

    def test_arguments_by_name(self):
        self.assertEqual(Desk(text=START).say(line="next"), "run 1")


class AtTheBench(Refusals, unittest.TestCase):
    def test_the_very_one(self):
        desk = Desk(START + "\ngo 3")
        bench = desk.bench
        self.assertEqual([type(bench), len(bench), bench.deeds], [Bench, 3, 1])
        desk.say("go 1")
        self.assertIs(desk.bench, bench)
        self.assertEqual(len(bench), 4)
        bench.undo()
        self.assertEqual(desk.say("steps"), "3")
        with bench.block():
            desk.say("go 2")
            self.assertEqual(desk.say("steps"), "5")
        self.assertEqual([desk.say("steps"), desk.say("redo"), desk.say("steps")], ["3", "done", "4"])

    def test_bad_journal(self):
        for value in any_values():
            if type(value) is not str:
                self.assert_refused_equal(BadJournal, 0, Desk, value)
        for text, number in (("", 2), ("deeds", 1), (START + "\ngo 0", 5), (TEXT + "\nway wish\ndeeds", 3)):
            self.assert_refused_equal(BadJournal, number, Desk, text)

    def test_beside_a_bench(self):
        """Deeds said are deeds done."""
        for seed, program in enumerate([sample(seed) for seed in range(25)] + PROGRAMS):
            desk = Desk(program.text + "\nway need\ndeeds")
            bench = Bench(program.text, "need")
            hand = Hand(seed, program)
            for _ in range(12):
                deed = hand.deed(bench)
                line = line_of(deed)
                told = do(bench, deed)
                if len(told) == 1:
                    self.assertEqual(desk.say(line), "done" if told[0] is None else str(told[0]))
                else:
                    self.assertEqual(refused(desk.say, line), told)
                self.assertTrue(desk.bench == bench)
                self.assertEqual(desk.say("known"), "-" if bench.known() is None else str(bench.known()))
                self.assertEqual(desk.say("pieces"), str(len(bench.book_now())))
            self.assertEqual([told_of(desk.bench), journal(desk.bench)], [told_of(bench), journal(bench)])


if __name__ == "__main__":
    unittest.main()
