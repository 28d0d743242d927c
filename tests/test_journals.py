"""Point 15, journals; point 3 (j)."""

import random
import unittest

from helpers import Refusals, any_values, refused
from programs import PROGRAMS
from samples import sample, sample_ways
from slow import Hand, do, line_of, told_of
from uselots.benches import Bench
from uselots.errors import BadJournal, BadProgram, NothingToUndo
from uselots.journals import journal, read_journal
from uselots.texts import Program

TEXT = "part twice fun x plus x x\nrun call twice plus 1 2"
START = TEXT + "\nway need\ndeeds"
SLOWER = "part twice fun x plus x plus x 0"


class Written(unittest.TestCase):
    def test_each_deed(self):
        bench = Bench(TEXT, "need")
        self.assertEqual(journal(bench), START)
        deeds = [("watch", ("run", 1)), ("go", 3), ("back", 2), ("go", 100000), ("learn",), ("expression", "call twice 5"),
                 ("go", 1), ("line", "twice", SLOWER), ("bind", ("need", ((("run", 1), "name"),))), ("bind", "value"),
                 ("watch", ("twice", 6)), ("unwatch", ("twice", 6)), ("bind", ("name", ((("run", 1), "value"),)))]
        for deed in deeds:
            self.assertEqual(len(do(bench, deed)), 1)
        self.assertEqual(journal(bench=bench).split("\n"), START.split("\n") + [
            "watch run 1", "go 3", "back 2", "go 100000", "learn", "expression call twice 5", "go 1", "line twice " + SLOWER,
            "bind need run 1 name", "bind value", "watch twice 6", "unwatch twice 6", "bind name run 1 value"])

    def test_ways_with_changes(self):
        text = "part f fun x let y x y\nrun let z 1 call f z"
        way = ("need", ((("f", 4), "name"), (("run", 1), "value"), (("run", 4), "name")))
        self.assertEqual(journal(Bench(text, way)), text + "\nway need f 4 name run 1 value run 4 name\ndeeds")

    def test_what_is_taken_back_is_not_there(self):
        bench = Bench(TEXT, "need")
        bench.go(3)
        bench.watch(("run", 1))
        bench.undo()
        with bench.block():
            bench.go(1)
            self.assertEqual(journal(bench), START + "\ngo 3\ngo 1")
        self.assertEqual(journal(bench), START + "\ngo 3")
        self.assertEqual(refused(bench.go, 0)[1], 0)
        self.assertEqual(journal(bench), START + "\ngo 3")
        # The program and the way are those of which the bench was made.
        bench.line("twice", SLOWER)
        bench.bind("name")
        self.assertEqual(journal(bench), START + f"\ngo 3\nline twice {SLOWER}\nbind name")


class Read(Refusals, unittest.TestCase):
    def test_read_again(self):
        for seed in range(60):
            for program in [sample(seed)] + PROGRAMS[seed:seed + 1]:
                way = random.Random(seed).choice(sample_ways(program, seed))
                bench = Bench(program.text, way)
                hand = Hand(seed, program)
                lines = []
                for _ in range(12):
                    deed = hand.deed(bench)
                    if len(do(bench, deed)) == 1:
                        lines.append(line_of(deed))
                text = journal(bench)
                self.assertEqual(text.split("\n")[len(text.split("\n")) - len(lines):], lines)
                again = read_journal(text)
                self.assertTrue(again == bench)
                self.assertEqual([told_of(again), journal(again)], [told_of(bench), text])
                while bench.deeds:
                    bench.undo()
                    again.undo()
                    self.assertEqual(told_of(again), told_of(bench))
                self.assertEqual(refused(again.undo), (NothingToUndo, None))

    def test_no_string(self):
        for value in any_values() + [["run 1", "way need", "deeds"], Bench(TEXT, "need")]:
            if type(value) is not str:
                self.assert_refused_equal(BadJournal, 0, read_journal, value)

    def wrong(self, number, text):
        self.assert_refused_equal(BadJournal, number, read_journal, text)

    def test_no_line_deeds(self):
        for text in ("", "x", "run", "deeds ", " deeds", "Deeds", "run deeds", "go 5", "deeds5"):
            self.wrong(2, text)
        self.wrong(4, TEXT + "\nway need")
        self.wrong(5, TEXT + "\nway need\n")
        self.wrong(5, TEXT + "\nway need\ndeeds ")
        self.wrong(8, "nothing\nof\nthis\nis\na\njournal\n")

    def test_too_few_lines(self):
        self.wrong(1, "deeds")
        self.wrong(2, "run 1\ndeeds")
        self.wrong(2, "way need\ndeeds")
        self.wrong(2, "\ndeeds\ngo 0")
        # The first one of several lines `deeds` counts.
        self.wrong(1, "deeds\nrun 1\nway need\ndeeds")
        self.wrong(2, "way need\ndeeds\ndeeds")
        self.assertEqual(len(read_journal("run 1\nway need\ndeeds")), 0)

    def test_bad_programs(self):
        for text in ("run 1\nrun 2", "part f fun x x", "", "run", "part f fun x g\nrun 1", "run 1\n", "x\ny\nz", "run x",
                     "part f fun x x\npart f fun x x\nrun 1", "\n".join(f"part f{at} fun x x" for at in range(13)) + "\nrun 1"):
            number = refused(Program, text)
            self.assertEqual(number[0], BadProgram)
            for way in ("way need", "way wish", "wish", "way", "way need run 1", ""):
                self.wrong(number[1], f"{text}\n{way}\ndeeds\ngo 0")

    def test_bad_ways(self):
        for way in ("", "way", "way ", "need", "way  need", "way need ", " way need", "way Need", "way need run 1", "way need run 1 name ",
                    "way need run 1 need", "way need run 2 name", "way need run 01 name", "way need run x name",
                    "way need twice 4 name", "way need run 1 name run 1 name", "way need  1 name", "way need run 1 wish",
                    "Way need", "way need name", "ways need", "way name run -1 need", "way name run 1 value value"):
            self.wrong(3, f"{TEXT}\n{way}\ndeeds\ngo 0")
        two = "run let x 1 let y 2 plus x y"
        self.wrong(2, two + "\nway need run 4 name run 1 name\ndeeds")
        self.assertEqual(read_journal(two + "\nway need run 1 name run 4 value\ndeeds").way,
                         ("need", ((("run", 1), "name"), (("run", 4), "value"))))

    def test_lines_that_have_no_form(self):
        lines = ["", " ", "go", "go ", "go x", "go 1 ", "go  1", " go 1", "go 01", "go +1", "go 1.0", "go 1 2", "go -0", "Go 1", "back",
                 "back x", "back 1 1", "line", "line ", "line twice", "expression", "expressions 1", "bind",
                 "bind need run 1", "bind need run x name", "bind need run 01 name", "bind need run 1 name ", "learn ", "learn 1",
                 " learn", "watch", "watch run", "watch run x", "watch run 01", "watch run 1 1", "watch  ", "unwatch run", "deeds",
                 "undo", "redo", "next", "steps", "known", "way need", "run 1", "lines twice x", "done", "watch run 1 "]
        for line in lines:
            self.wrong(5, f"{START}\n{line}")
            self.wrong(6, f"{START}\ngo 1\n{line}\ngo 0")
        self.wrong(5, START + "\nline twice")

    def test_deeds_that_are_refused(self):
        for line in ("go 0", "go -1", "go 100001", "back 1", "back 0", "back -3", f"line nobody {SLOWER}", "line twice x", "line twice ",
                     "line  x", f"line run {SLOWER}", "expression ", "expression plus 1", "expression  5", "bind wish", "bind ",
                     "bind need run 2 name", "bind need run 1 need", "bind need  1 name", "bind  run 1 name", "learn",
                     "watch run 0", "watch run -1", "watch  1", "watch twice' 4", "unwatch run 1", "unwatch  5"):
            self.wrong(5, f"{START}\n{line}")
            if line != "back 1":
                self.wrong(7, f"{START}\ngo 1\ngo 1\n{line}\nback 1\nx")
        self.wrong(6, START + "\nwatch run 1\nwatch run 1")
        self.wrong(7, START + "\ngo 1\nback 1\nback 1")
        self.wrong(6, f"{START}\ngo 100\nline twice {SLOWER}")
        self.wrong(8, f"{START}\ngo 1\nline twice {SLOWER}\ngo 100\nlearn")
        self.assertEqual(read_journal(f"{START}\ngo 1\nline twice {SLOWER}\ngo 100").deeds, 3)

    def test_several_faults_at_a_time(self):
        """No line deeds ahead of all; then too few lines; the program; the way; the first line behind."""
        self.wrong(6, "run\nwish\ngo 0\nx\nDeeds")
        self.wrong(1, "deeds\nx\ny")
        self.wrong(1, "run\nwish\ndeeds\ngo 0")
        self.wrong(2, "run 1\nwish\ndeeds\ngo 0")
        self.wrong(4, "run 1\nway need\ndeeds\ngo 0\nx")
        self.wrong(4, "run 1\nway need\ndeeds\nx\ngo 0")
        # All lines can stand and the line run lacks: the number of the line of the way.
        self.wrong(2, "part f fun x x\nway need\ndeeds")

    def test_great_numbers(self):
        self.wrong(5, START + "\ngo 999999999")
        self.assertEqual(len(read_journal(text=START + "\ngo 100000")), 8)


if __name__ == "__main__":
    unittest.main()
