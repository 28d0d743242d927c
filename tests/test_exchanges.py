"""Point 12: parts exchanged; point 3 (g)."""

import random
import unittest
from unittest import mock

from cutter import Cutter
from helpers import Refusals, any_values, refused
from pieces_by_hand import call_of, handed
from programs import PROGRAMS, programs_and_ways
from samples import WORDS, Maker, sample, without
from uselots import usage
from uselots.books import Book
from uselots.errors import (BadLine, BadMany, BadMost, BadWay, Lacks, NoPart, NoPiece, NoProgram, NotEnded, OtherParts,
                            Ring, StuckAt, Wide)
from uselots.exchanges import (compared, exchanged, exchanged_run, outer_calls, predicted, predicted_run)
from uselots.papers import paper
from uselots.pieces import pieces
from uselots.runs import Run, ended
from uselots.texts import Program, joined_text, parts_text

MOST = 300
TWICE = Program("part twice fun x plus x x\nrun plus call twice 3 call twice 4")
STUCK = Program("part twice fun x plus x x\nrun plus call twice 3 call 1 2")


def ending(many):
    for program, way in programs_and_ways(many):
        try:
            yield program, way, paper(program, way, MOST)
        except (NotEnded, StuckAt):
            pass


def slower(program, name):
    """The part's line, doing the same with one step more for each call, or two."""
    words = program.line(name).split(" ")
    return " ".join(words[:4] + ["let", "slow", "0"] + words[4:])


def made_slower(many, leave=()):
    """Programs that end with a value, by ways without changes in a part's line, nor in those left; this part, its slower line."""
    for program, way, _ in ending(many):
        for name in program.parts:
            line = slower(program, name)
            its = without(way, name)
            for other in leave:
                its = without(its, other)
            if is_program(program, name, line) and refused(paper, program, its, MOST) is None:
                yield program, its, name, line


def is_program(program, name, line):
    return refused(exchanged, program, name, line) is None


class Exchanged(Refusals, unittest.TestCase):
    def test_lines_that_fit(self):
        program = Program("part a fun x x\npart b fun y call a y\npart c fun z 1\nrun call b 2")
        told = exchanged(program, "b", "part b fun u plus call a u call b u")
        self.assertEqual(told.text, "part a fun x x\npart b fun u plus call a u call b u\npart c fun z 1\nrun call b 2")
        self.assertEqual(exchanged(line=program.line("c"), name="c", program=program), program)
        self.assertEqual(exchanged(program, "a", "part a fun x c").parts, ("a", "b", "c"))
        self.assertEqual(program.line("b"), "part b fun y call a y")

    def test_bad_line(self):
        program = Program("part a fun x x\npart b fun y call a y\nrun call b 2")
        bad = ["part a fun x x", "part b fun y\ncall a y", "part b fun y y\n", "part b fun y y y", "part b fun y", "part b",
               "part bb fun y y", "part b  fun y y", " part b fun y y", "part b fun y y ", "part b fun a a", "part b fun y q",
               "run 5", "b fun y y", "part b 5", "part b fun b 1", "", "part b fun y x", "part b fun y 100",
               "part b fun " + "z plus z " * 60, "part b fun z " + "plus z " * 29 + "z", "part c fun y y",
               "part b fun y let b 1 2", "part b fun y run", "part b fun y y\nrun 1"]
        for value in any_values() + bad:
            self.assert_refused(BadLine, value, exchanged, program, "b", value)
        # With these, too, the text is a program's.
        lonely = Program("part a fun x x\npart b fun y y\nrun 1")
        for value in ("part b fun y y\npart d fun u u", "part d fun y y", "part a2 fun y y"):
            self.assert_refused(BadLine, value, exchanged, lonely, "b", value)
        # A name that the newer line binds may be that of another part, or one that another line uses.
        program = Program("part a fun x c\npart c fun y y\nrun let z 1 z")
        for line in ("part c fun a a", "part a fun c c", "part z fun y y"):
            self.assert_refused(BadLine, line, exchanged, program, "c", line)
        self.assertEqual(exchanged(program, "c", "part c fun z z").line("c"), "part c fun z z")

    def test_the_sequence_of_errors(self):
        for value in any_values():
            if not isinstance(value, Program):
                self.assert_refused(NoProgram, value, exchanged, value, None, None)
                self.assert_refused(NoProgram, value, outer_calls, value, None, None, None)
                self.assert_refused(NoProgram, value, compared, value, None, None, None, None)
                self.assert_refused(NoProgram, value, predicted, value, None, None, None, None)
                self.assert_refused(NoProgram, value, predicted_run, value, None, None, None, None, None)
        book = Book(TWICE.line("twice"), "need")
        for value in any_values() + ["x", "part"]:
            if value not in WORDS:
                self.assert_refused(BadWay, value, outer_calls, TWICE, value, None, None)
                self.assert_refused(BadWay, value, compared, TWICE, value, None, None, None)
                self.assert_refused(BadWay, value, predicted, TWICE, value, None, None, book)
                self.assert_refused(BadWay, value, predicted_run, TWICE, value, None, None, None, book)
            self.assert_refused(NoPart, value, exchanged, TWICE, value, None)
            for program in (TWICE, STUCK):
                self.assert_refused(NoPart, value, outer_calls, program, "need", 1, value)
                self.assert_refused(NoPart, value, compared, program, "need", 1, value, None)
                self.assert_refused(NoPart, value, predicted, program, "need", 1, value, book)
            self.assert_refused(NoPart, value, predicted_run, TWICE, "need", 99, 0, value, book)
            self.assert_refused(NoPart, value, exchanged_run, Run(TWICE, "need"), value, None)
        for value in any_values() + [0, -1, 20001]:
            if type(value) is not int or not 1 <= value <= 20000:
                self.assert_refused(BadMost, value, outer_calls, TWICE, "need", value, None)
                self.assert_refused(BadMost, value, compared, TWICE, "need", value, None, None)
                self.assert_refused(BadMost, value, predicted, TWICE, "need", value, None, book)
                self.assert_refused(BadMost, value, predicted_run, TWICE, "need", value, None, None, book)

    def test_not_ended_and_stuck(self):
        book = Book(TWICE.line("twice"), "need")
        line = TWICE.line("twice")
        many = len(ended(TWICE, "need", 99))
        calls = [(outer_calls, ("twice",)), (compared, ("twice", line)), (predicted, ("twice", book))]
        for function, others in calls:
            self.assert_refused_equal(NotEnded, many - 1, function, TWICE, "need", many - 1, *others)
            self.assert_refused_equal(StuckAt, ("run", 5), function, STUCK, "need", 99, *others)
        for number in (None, 99):
            self.assert_refused_equal(NotEnded, 5, predicted_run, TWICE, "need", 5, number, None, book)
            self.assert_refused_equal(StuckAt, ("run", 5), predicted_run, STUCK, "need", 99, number, None, book)
        self.assert_refused(BadLine, "part x", compared, STUCK, "need", 1, "twice", "part x")


class Outer(unittest.TestCase):
    def test_by_hand(self):
        """All rows for the part's body under no other one, by recursion over the paper."""
        many = 0
        for program, way, told in ending(120):
            cutter = Cutter(program, way, *told)
            for name in program.parts:
                by_hand = tuple((call, count, its) for (call, its), count in cutter.outer(name))
                self.assertEqual(outer_calls(program, way, MOST, name), by_hand)
                many += len(by_hand) > 1
        self.assertGreater(many, 30)

    def test_parts_that_call_themselves(self):
        program = Program("part sum fun n pick n 0 plus n call sum plus n -1\nrun plus call sum 2 plus call sum 1 call sum 2")
        for way in WORDS:
            told = outer_calls(most=99, name="sum", way=way, program=program)
            self.assertEqual([(call[0][call[2]], count) for call, count, _ in told],
                             [(("number", 1), 1), (("number", 3), 2)])
            self.assertEqual(list(told), sorted(told))
        by_need = outer_calls(program, "need", 99, "sum")
        self.assertEqual([its for _, _, its in by_need], [12, 21])

    def test_calls_within_the_arguments_of_others(self):
        """What an argument takes stands under the call, so it is not among the rows of the body."""
        program = Program("part twice fun x plus x x\nrun call twice call twice 1")
        self.assertEqual([told[1:] for told in outer_calls(program, "need", 99, "twice")], [(1, 3), (1, 3)])
        self.assertEqual([told[1:] for told in outer_calls(program, "name", 99, "twice")], [(2, 3), (1, 3)])
        alike = Program("part id fun x x\nrun call id call id 1")
        self.assertEqual([told[1:] for told in outer_calls(alike, "need", 99, "id")], [(2, 1)])

    def test_none(self):
        program = Program("part f fun x x\npart g fun x x\nrun call g f")
        self.assertEqual(outer_calls(program, "need", 99, "f"), ())
        self.assertEqual(len(outer_calls(program, "need", 99, "g")), 1)

    def test_functions_that_come_of_a_part(self):
        """What is called later of what a call gave stands under this call."""
        program = Program("part add fun x fun y plus x y\nrun let f call add 1 plus call f 2 call f 3")
        (call, count, its), = outer_calls(program, "need", 99, "add")
        self.assertEqual([count, its, call[1]], [1, 7, ((0, 2),)])


class Compared(Refusals, unittest.TestCase):
    def test_the_same(self):
        """Lines that do the same, one or two steps slower for each call, also for those within."""
        many = 0
        for program, way, name, line in made_slower(100):
            newer = exchanged(program, name, line)
            run = ended(newer, way, 20000)
            word, steps, later, changes = compared(program, way, 20000, name, line)
            self.assertEqual([word, steps, later], ["same", len(ended(program, way, 20000)), len(run)])
            self.assertEqual(later, steps + sum(count * (new - old) for _, count, old, new in changes))
            self.assertEqual([row[:3] for row in changes], list(outer_calls(program, way, 20000, name)))
            self.assertEqual([row[:2] + row[3:] for row in changes], list(outer_calls(newer, way, 20000, name)))
            many += len(changes) > 0
        self.assertGreater(many, 60)

    def test_the_same_line(self):
        for program, way, told in ending(20):
            for name in program.parts:
                word, steps, later, changes = compared(program, way, MOST, name, program.line(name))
                self.assertEqual([word, steps, later], ["same", len(told[1]), len(told[1])])
                self.assertTrue(all(old == new for _, _, old, new in changes))

    def test_lines_by_lot(self):
        """Whatever another line does: what both runs ask of the part, by hand."""
        words = {"same": 0, "other": 0, "ends not": 0}
        for seed in range(250):
            program = sample(seed)
            lot = random.Random(seed)
            for name in program.parts:
                line = self.other_line(seed, name, program, lot)
                if line is None:
                    continue
                for way in WORDS:
                    try:
                        steps = len(paper(program, way, MOST)[1])
                    except (NotEnded, StuckAt):
                        continue
                    told = compared(program, way, MOST, name, line)
                    words[told[0]] += 1
                    self.assertEqual(told, self.by_hand(program, way, name, line, steps))
        self.assertGreater(min(words.values()), 15)

    def other_line(self, seed, name, program, lot):
        if lot.random() < 0.3:
            # A line that perhaps looks once more, or once less.
            words = program.line(name).split(" ")
            line = " ".join(words[:4] + lot.choice((["pick", words[3]] + words[4:] + ["0"], ["let", "q", words[3]] + words[4:],
                                                    ["plus", "0"] + words[4:], ["pick", words[3]] + words[4:] + words[4:])))
        else:
            maker = Maker(seed)
            maker.text()
            _, given, come = maker.parts[name]
            maker.lot = lot
            line = f"part {name} fun x " + maker.e(come, {"x": given}, 3)
        return line if is_program(program, name, line) else None

    def by_hand(self, program, way, name, line, steps):
        newer = exchanged(program, name, line)
        run = ended(newer, way, MOST)
        if run.end is None:
            return ("ends not", ("going", MOST))
        if run.end[0] == "stuck":
            return ("ends not", run.end)
        ones = dict((call, (count, its)) for (call, its), count in Cutter(program, way, *paper(program, way, MOST)).outer(name))
        others = dict((call, (count, its)) for (call, its), count in Cutter(newer, way, *paper(newer, way, MOST)).outer(name))
        for call in sorted(set(ones) | set(others)):
            if ones.get(call, (0,))[0] != others.get(call, (0,))[0]:
                return ("other", steps, len(run), call)
        self.assertEqual(ended(program, way, MOST).end[0], run.end[0])
        if run.end[0] == "number":
            self.assertEqual(ended(program, way, MOST).end, run.end)
        return ("same", steps, len(run), tuple((call, ones[call][0], ones[call][1], others[call][1]) for call in sorted(ones)))

    def test_the_first_call_as_python_sorts(self):
        program = Program("part f fun x plus x x\nrun plus call f 9 plus call f 1 call f 5")
        told = compared(line="part f fun x plus x 0", name="f", most=99, way="need", program=program)
        calls = [call for call, _, _ in outer_calls(program, "need", 99, "f")]
        others = [call for call, _, _ in outer_calls(exchanged(program, "f", "part f fun x plus x 0"), "need", 99, "f")]
        self.assertEqual(told, ("other", 20, 20, min(calls + others)))
        once = Program("part f fun x x\npart g fun x call f x\nrun plus call f 1 call g 2")
        told = compared(once, "need", 99, "g", "part g fun x plus call f 1 call f plus x -1")
        self.assertEqual(told[0], "same")
        told = compared(once, "need", 99, "g", "part g fun x plus call f 1 call f 0")
        self.assertEqual(told[0], "other")

    def test_ends_not(self):
        line = "part twice fun x call twice x"
        self.assertEqual(compared(TWICE, "need", 99, "twice", line), ("ends not", ("going", 99)))
        self.assertEqual(compared(TWICE, "need", 99, "twice", "part twice fun x plus twice x"), ("ends not", ("stuck", ("twice", 4))))
        # The newer run may take no more than most steps either.
        longer = "part twice fun x plus x plus x 0"
        self.assertEqual(compared(TWICE, "need", 16, "twice", longer), ("ends not", ("going", 16)))
        self.assertEqual(compared(TWICE, "need", 17, "twice", longer)[:3], ("same", 13, 17))

    def test_ways_with_changes_in_the_line(self):
        program = Program("part f fun x let y x plus y y\npart g fun x call f x\nrun call g 3")
        way = ("need", ((("f", 4), "name"), (("g", 4), "value")))
        self.assertEqual(compared(program, way, 99, "f", "part f fun z let u z plus u u")[0], "same")
        for line in ("part f fun x plus x x", "part f fun x plus 0 let y x plus y y"):
            self.assert_refused(BadWay, way, compared, program, way, 99, "f", line)
            self.assert_refused(BadWay, way, compared, program, way, 2, "f", line)
        self.assert_refused(BadLine, "part f", compared, program, way, 99, "f", "part f")
        self.assertEqual(compared(program, way, 99, "g", "part g fun x call f plus 0 x")[0], "same")
        self.assert_refused(BadWay, way, compared, program, way, 99, "g", "part g fun x plus 0 call f x")

    def test_wide(self):
        def width(program):
            table, _ = paper(program, "need", 99)
            return sum(len(lot) + sum(len(asked[0]) for asked, _ in lot) for kind, lot in table if kind == "function")

        line = "part twice fun x let f fun y plus y x plus call f 1 plus call f 2 -3"
        newer = exchanged(TWICE, "twice", line)
        one, other = width(TWICE), width(newer)
        self.assertLess(one, other)
        with mock.patch.object(usage, "WIDEST", one):
            self.assertEqual(len(outer_calls(TWICE, "need", 99, "twice")), 2)
            self.assert_refused_equal(Wide, one, compared, TWICE, "need", 99, "twice", line)
            self.assertEqual(compared(TWICE, "need", 99, "twice", "part twice fun x call twice x")[0], "ends not")
        with mock.patch.object(usage, "WIDEST", one - 1):
            self.assert_refused_equal(Wide, one - 1, outer_calls, TWICE, "need", 99, "twice")
            self.assert_refused_equal(Wide, one - 1, compared, TWICE, "need", 99, "twice", line)
            self.assertEqual(compared(TWICE, "need", 99, "twice", "part twice fun x call twice x")[0], "ends not")
            empty = Book(TWICE.line("twice"), "need")
            self.assert_refused_equal(Wide, one - 1, predicted, TWICE, "need", 99, "twice", empty)
            self.assert_refused_equal(Wide, one - 1, predicted_run, TWICE, "need", 99, 0, "twice", empty)
        with mock.patch.object(usage, "WIDEST", other):
            self.assertEqual(compared(TWICE, "need", 99, "twice", line)[0], "same")


class Predicted(Refusals, unittest.TestCase):
    def test_beside_runs(self):
        many = 0
        for program, way, name, line in made_slower(100):
            newer = exchanged(program, name, line)
            book = Book(parts_text(newer), without(way, "run"))
            if refused(book.learn, newer, 20000):
                # The way without its changes in the run's line does not end.
                continue
            try:
                steps = predicted(program, way, MOST, name, book)
            except NoPiece as error:
                # The way without its changes in the run's line may ask otherwise.
                self.assertNotEqual(way, without(way, "run"))
                self.assertNotIn(error.value, book)
                continue
            self.assertEqual(steps, ("steps", len(ended(newer, way, 20000))))
            many += 1
        self.assertGreater(many, 60)

    def test_other_parts(self):
        program = Program("part a fun x x\npart b fun y call a y\nrun call b 2")
        way = ("need", ((("b", 4), "name"), (("run", 1), "value")))
        newer = "part a fun x plus x 0\npart b fun y call a y"
        fine = Book(newer, ("need", ((("b", 4), "name"),)))
        self.assertEqual(refused(predicted, program, way, 99, "a", fine)[0], NoPiece)
        self.assert_refused(OtherParts, fine, predicted, program, way, 99, "b", fine)
        self.assert_refused(OtherParts, fine, predicted, program, "need", 99, "a", fine)
        others = [Book(newer, "need"), Book(newer, "name"), Book("part b fun y call a y\npart a fun x plus x 0", fine.way),
                  Book(newer + "\npart c fun x x", fine.way), Book(newer.replace("call a y", "call a plus y 0"), fine.way),
                  Book(newer.replace("fun y call a y", "fun u call a u"), fine.way)]
        for book in others:
            self.assert_refused(OtherParts, book, predicted, program, way, 99, "a", book)
            self.assert_refused(OtherParts, book, predicted, program, way, 1, "a", book)
        by_need = Book(newer, "need")
        self.assertEqual(refused(predicted, program, ("need", ((("run", 1), "value"),)), 99, "a", by_need)[0], NoPiece)
        self.assertEqual(refused(predicted, program, "need", 99, "b", Book(parts_text(program), "need"))[0], NoPiece)

    def test_what_size_raises_for_the_first_call(self):
        book = Book("part ping fun x call pong x\npart pong fun x call ping x", "need")
        program = Program("part ping fun x x\npart pong fun x call ping x\nrun plus call ping 5 plus call ping 7 call ping 7")
        calls = [(call, count) for call, count, _ in outer_calls(program, "need", 99, "ping")]
        self.assertEqual(calls, [(call_of(5, 1, 5), 1), (call_of(7, 1, 7), 2)])
        self.assert_refused_equal(NoPiece, ("ping", call_of(5, 1, 5)), predicted, program, "need", 99, "ping", book)
        book.put(handed("ping", "pong", 5, 1, 5))
        self.assert_refused_equal(Lacks, ("pong", call_of(5, 1, 5)), predicted, program, "need", 99, "ping", book)
        book.put(handed("pong", "ping", 5, 1, 5))
        self.assert_refused_equal(Ring, ("ping", call_of(5, 1, 5)), predicted, program, "need", 99, "ping", book)
        book = Book("part ping fun x plus x 0\npart pong fun x call ping x", "need")
        book.learn(joined_text(book.parts, "call ping 5"), 99)
        self.assert_refused_equal(NoPiece, ("ping", call_of(7, 1, 7)), predicted, program, "need", 99, "ping", book)
        book.learn(joined_text(book.parts, "call ping 7"), 99)
        self.assertEqual(predicted(book=book, name="ping", most=99, way="need", program=program), ("steps", 14 + 3 * 2))

    def test_nothing_else_is_run(self):
        book = Book("part twice fun x plus x plus x 0", "need")
        book.learn(joined_text(book.parts, "plus call twice 4 call twice 3"), 99)
        with mock.patch("uselots.exchanges.gone", side_effect=AssertionError):
            self.assertEqual(predicted(TWICE, "need", 13, "twice", book), ("steps", 17))


class Amid(Refusals, unittest.TestCase):
    def test_predicted_run_beside_exchanged_runs(self):
        many = 0
        for program, way, name, line in made_slower(60, ["run"]):
            newer = exchanged(program, name, line)
            book = Book(parts_text(newer), way)
            book.learn(newer, 20000)
            steps = len(ended(program, way, MOST))
            for number in sorted({0, 1, 2, 3, 5, 8, 13, 21, 34, 55, steps // 2, steps - 2, steps - 1}):
                if not 0 <= number < steps:
                    continue
                run = Run(program, way)
                if number:
                    run.go(number)
                run = exchanged_run(run, name, line)
                run.go(20000)
                self.assertEqual(predicted_run(program, way, MOST, number, name, book), ("steps", len(run)))
                many += 1
            self.assertEqual(predicted_run(program, way, MOST, steps, name, book), ("steps", steps))
            self.assertEqual(predicted_run(program, way, MOST, 0, name, book), predicted(program, way, MOST, name, book))
        self.assertGreater(many, 300)

    def test_refused(self):
        book = Book("part twice fun x plus x plus x 0", "need")
        for value in any_values() + [-1, 14]:
            if type(value) is not int or not 0 <= value <= 13:
                self.assert_refused(BadMany, value, predicted_run, TWICE, "need", 99, value, None, None)
        self.assertEqual(refused(predicted_run, TWICE, "need", 99, 0, "twice", book)[0], NoPiece)
        self.assertEqual(predicted_run(TWICE, "need", 99, 13, "twice", book), ("steps", 13))
        other = Book("part twice fun x plus x plus x 0", "name")
        self.assert_refused(OtherParts, other, predicted_run, TWICE, "need", 99, 13, "twice", other)
        program = Program("part f fun x let y x plus y y\nrun call f 3")
        way = ("need", ((("f", 4), "name"),))
        same = Book(parts_text(program), way)
        self.assertEqual(refused(predicted, program, way, 99, "f", same)[0], NoPiece)
        self.assert_refused(OtherParts, same, predicted_run, program, way, 99, 0, "f", same)
        by_need = Book(parts_text(program), "need")
        self.assert_refused(OtherParts, by_need, predicted_run, program, way, 99, 0, "f", by_need)

    def test_whoever_was_made_ahead_is_no_such_call(self):
        """The function was made at step 2: what is called of it later goes on by the elder line."""
        program = Program("part f fun x plus x 1\nrun let g f plus call g 1 plus call g 2 call f 3")
        line = "part f fun x plus x plus 0 1"
        book = Book(line, "need")
        book.learn(joined_text(line, "plus call f 1 plus call f 2 call f 3"), 99)
        steps = len(ended(program, "need", 99))
        run = ended(program, "need", 99)
        made = run.places.index(("run", 3))
        told = [predicted_run(program, "need", 99, number, "f", book)[1] - steps for number in range(steps + 1)]
        self.assertEqual(told[:made + 1], [6] * (made + 1))
        again = len(run.places) - 1 - run.places[::-1].index(("run", 13))
        self.assertEqual(told[made + 1:again + 1], [2] * (again - made))
        self.assertEqual(told[again + 1:], [0] * (steps - again))
        self.assertEqual(predicted_run(number=0, book=book, name="f", most=99, way="need", program=program)[1], steps + 6)


class ByHand(unittest.TestCase):
    def test_programs_by_hand(self):
        for program in PROGRAMS:
            for name in program.parts:
                for way in WORDS:
                    if refused(pieces, program, way, 2000) is None:
                        line = slower(program, name)
                        told = compared(program, way, 20000, name, line)
                        self.assertEqual(told[:3], ("same", len(ended(program, way, 20000)),
                                                    len(ended(exchanged(program, name, line), way, 20000))))


if __name__ == "__main__":
    unittest.main()
