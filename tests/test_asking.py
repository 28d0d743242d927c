"""Point 11: asking, beside runs and beside asks by recursion; point 3 (f)."""

import unittest
from unittest import mock

from helpers import Refusals, any_values, refused
from plains import FAR, PLAINS, Again, Asker, More, plain_sample, plains_and_ways
from programs import PROGRAMS
from samples import WORDS, sample, without
from uselots.asking import Asked, arity, asked, is_plain
from uselots.books import Book, size, whole
from uselots.errors import (BadMany, BadMost, BadWay, Endless, NoAsk, NoPart, NoProgram, NotEnded, NotPlain, TooMany,
                            Wide)
from uselots.moments import looked
from uselots.pieces import is_piece, pieces, requests
from uselots.runs import Run, ended
from uselots.texts import Program, joined_text, parts_text

SUM_OF = Program("part add fun x fun y plus x y\nrun call call add 2 call call add 3 4")
MOST = 3000


def short(many, most=MOST):
    """Plain programs and ways with what is asked of them, as far as their runs take no more than most steps."""
    for program, way in plains_and_ways(many):
        try:
            told = asked(program, way, 60)
        except (Endless, TooMany):
            continue
        if told.steps <= most:
            yield program, way, told


class Plain(Refusals, unittest.TestCase):
    def test_plain(self):
        for program in PLAINS + [plain_sample(seed) for seed in range(100)]:
            self.assertIs(is_plain(program), True, program.text)
        for text in ("run 1", "part f fun x x\nrun 1", "part f fun x x\nrun call f call f 2",
                     "part f fun a fun b fun c fun d d\nrun call call call call f 1 2 3 4",
                     "part f fun x fun x x\nrun call call f 1 2", "part f fun x let y less x 1 pick y x y\nrun 1"):
            self.assertIs(is_plain(Program(text)), True, text)

    def test_just_not(self):
        part = "part f fun x fun y x\n"
        for run in ("f", "call f 1", "call call call f 1 2 3", "call call f f 1", "call call f 1 f", "fun x x", "pair 1 2",
                    "first pair 1 2", "second pair 1 2", "plus 1 fun x x", "let g f call call g 1 2",
                    "let g call f 1 call g 2", "call fun x x 1", "let x 1 call x 1", "plus f 1", "pick 0 1 f",
                    "call pick 0 f f 1", "call call f 1 call f 2", "call call pick 0 f f 1 2", "call let x 1 f 1",
                    "call 1 2", "let x fun y y 1", "call call f call call f 1 2 call call f 3 pair 1 2"):
            self.assertIs(is_plain(Program(part + "run " + run)), False, run)
        for line in ("part f fun a fun b fun c fun d fun e 1", "part f fun a pick a fun b b 1", "part f fun a let b a fun c c",
                     "part f fun a f", "part f fun a call call f a a", "part f fun a call a 1", "part f fun a pair a a",
                     "part f fun a plus a first a", "part f fun a fun b call f a"):
            self.assertIs(is_plain(Program(line + "\nrun 1")), False, line)

    def test_others_are_not(self):
        many = {True: 0, False: 0}
        for program in PROGRAMS + [sample(seed) for seed in range(300)]:
            words = [word for line in program.text.split("\n") for word in line.split(" ")]
            told = is_plain(program)
            many[told] += 1
            if told:
                self.assertFalse({"pair", "first", "second"} & set(words))
        self.assertGreater(min(many.values()), 10)

    def test_arity(self):
        program = Program("part f fun a fun b fun c fun d d\npart g fun x x\npart h fun x fun x let y 1 x\nrun 1")
        self.assertEqual([arity(program, "f"), arity(program, "g"), arity(name="h", program=program)], [4, 1, 2])
        for value in any_values() + ["run", "k", "x", ("f",)]:
            self.assert_refused(NoPart, value, arity, program, value)
        stuck = Program("part f fun x x\nrun f")
        for value in ("f", "k", None):
            self.assert_refused(NotPlain, stuck, arity, stuck, value)

    def test_no_program(self):
        for value in any_values():
            if not isinstance(value, Program):
                self.assert_refused(NoProgram, value, is_plain, value)
                self.assert_refused(NoProgram, value, arity, value, None)
                self.assert_refused(NoProgram, value, asked, value, None, None)


class BesideRuns(unittest.TestCase):
    def test_end_and_steps(self):
        many = 0
        for program, way, told in short(250):
            run = ended(program, way, MOST)
            self.assertEqual((told.end, told.steps), (run.end, len(run)), (program.text, way))
            many += len(told.asks) > 3
        self.assertGreater(many, 200)

    def test_each_ask(self):
        """One call by itself, its arguments written as numbers: what it takes, and how often it looks at each."""
        many = 0
        for program, way, told in short(60, 400):
            way = without(way, "run")
            for name, numbers, result, steps, looks in told.asks:
                if not all(-99 <= number <= 99 for number in numbers):
                    continue
                words = ["call"] * len(numbers) + [name] + [str(number) for number in numbers]
                alone = joined_text(parts_text(program), " ".join(words))
                run = ended(alone, way, MOST)
                self.assertEqual(run.end, ("number", result))
                by_step = {step: seen for step, half, seen in looked(alone, way, MOST)}
                # The outermost call, step 0, binds the last argument.
                told_looks = tuple(len(by_step[len(numbers) - 1 - at]) for at in range(len(numbers)))
                self.assertEqual(looks, told_looks)
                own = [place for place in run.places if place[0] == "run"]
                self.assertEqual(steps, len(run) - len(own))
                self.assertEqual(told.ask(name, numbers), (result, steps, looks))
                many += 1
        self.assertGreater(many, 300)

    def test_asks_beside_asks_by_recursion(self):
        ends = {"value": 0, "again": 0, "more": 0}
        programs = PLAINS + [plain_sample(seed) for seed in range(200)]
        programs += [Program(program.text.replace("plus n -1", "n")) for program in programs]
        for program in programs:
            for most in (1, 3, 8, 40):
                asker = Asker(program.text, most)
                try:
                    end = ("number", asker.value(asker.trees["run"], {}))
                    told = asked(program, "need", most)
                    self.assertEqual(told.end, end)
                    self.assertEqual([row[:3] for row in told.asks],
                                     sorted([(*ask, result) for ask, result in asker.results.items()]))
                    ends["value"] += 1
                except Again as error:
                    self.assertEqual(refused(asked, program, "name", most), (Endless, error.args[0]))
                    ends["again"] += 1
                except More:
                    self.assertEqual(refused(asked, program, "value", most), (TooMany, most))
                    ends["more"] += 1
        self.assertGreater(min(ends.values()), 20)

    def test_asks_do_not_hang_on_the_way(self):
        for program, way, told in short(80):
            by_need = asked(program, "need", 60)
            self.assertEqual([row[:3] for row in told.asks], [row[:3] for row in by_need.asks])
            self.assertEqual(told.end, by_need.end)
            self.assertEqual(list(told.asks), sorted(told.asks))


class Far(Refusals, unittest.TestCase):
    def test_runs_that_nobody_can_run(self):
        text = "part t fun n pick n 1 plus call t plus n -1 call t plus n -1\nrun call t "
        for way, start, per in (("value", 3, 5), ("need", 3, 5)):
            steps = start
            for _ in range(198):
                steps = 3 + 2 * (per + steps)
            told = asked(Program(text + "plus 99 99"), way, 199)
            self.assertEqual([told.end, told.steps, len(told.asks)], [("number", 9999), steps + 5, 199])
            self.assertGreater(told.steps, 10 ** 40)
            few = asked(Program(text + "9"), way, 10)
            self.assertEqual([few.end, few.steps], [("number", 512), len(ended(Program(text + "9"), way, 99999))])

    def test_by_name_a_tower(self):
        """By name each look works all out anew, by need and by value once."""
        text = "part d fun x plus plus x x plus x x\npart t fun n pick n 1 call d call t plus n -1\nrun call t 80"
        told = {way: asked(Program(text), way, 2000) for way in WORDS}
        self.assertGreater(told["name"].steps, 10 ** 40)
        self.assertEqual({way: told[way].end for way in WORDS}, dict.fromkeys(WORDS, ("number", 9999)))
        self.assertLess(told["value"].steps, 2000)
        for way in ("need", "value"):
            self.assertEqual(told[way].steps, len(ended(Program(text), way, 5000)))

        def steps(many):
            return asked(Program(text.replace("80", str(many))), "name", 2000).steps

        # From run to run what is added is told by shorter ones, which are run.
        short_ones = [len(ended(Program(text.replace("80", str(many))), "name", 100000)) for many in range(5)]
        self.assertEqual([steps(many) for many in range(5)], short_ones)

    def test_deep_asks(self):
        text = "part s fun n pick n 0 plus 1 call s plus n -1\nrun plus call s "
        big = "plus 99 " * 19 + "99"
        told = asked(Program(text + big + " 0"), "value", 2000)
        self.assertEqual([told.end, len(told.asks)], [("number", 1980), 1981])
        self.assertEqual(told.steps, len(ended(Program(text + big + " 0"), "value", 100000)))
        self.assert_refused_equal(TooMany, 1980, asked, Program(text + big + " 0"), "value", 1980)
        place, opened = told.at(told.steps - 2)
        self.assertEqual(opened, tuple(("s", (number,)) for number in range(1981)))


class Refused(Refusals, unittest.TestCase):
    def test_endless(self):
        loop = "part loop fun x call loop x\npart one fun x 1\npart two fun x call two2 x\npart two2 fun x call two x\n"
        for run, ask in (("call loop 3", ("loop", (3,))), ("call one call loop 3", ("loop", (3,))),
                         ("let x call loop 4 5", ("loop", (4,))), ("call two plus 1 1", ("two", (2,))),
                         ("plus call one 1 call two2 0", ("two2", (0,))), ("pick 0 call loop 1 2", ("loop", (1,)))):
            program = Program(loop + "run " + run)
            for way in WORDS:
                self.assert_refused_equal(Endless, ask, asked, program, way, 9)
        self.assertEqual(asked(Program(loop + "run pick 1 call loop 1 2"), "need", 1).end, ("number", 2))
        self.assertEqual(len(ended(Program(loop + "run call one call loop 3"), "need", 99)), 3)

    def test_too_many(self):
        program = Program(FAR + "5")
        many = len(asked(program, "need", 2000).asks)
        self.assertEqual(many, 11)
        self.assertEqual(len(asked(program, "need", many).asks), many)
        for most in range(1, many):
            self.assert_refused_equal(TooMany, most, asked, program, "need", most)
        self.assertEqual(asked(Program("run 5"), "need", 1).asks, ())
        # Those that are being worked out are counted.
        self.assert_refused_equal(TooMany, 2, asked, Program("part f fun n pick n 0 call f plus n -1\nrun call f 2"), "need", 2)
        self.assert_refused_equal(TooMany, 2000, asked, Program("part f fun n call f plus n -1\nrun call f 2"), "need", 2000)
        # In arguments that nobody looks at, too.
        nobody = "part k fun x 1\npart f fun n pick n 0 call f plus n -1\nrun call k call f 3"
        self.assert_refused_equal(TooMany, 4, asked, Program(nobody), "need", 4)
        self.assertEqual(asked(Program(nobody), "need", 5).steps, 3)

    def test_whichever_comes_first(self):
        text = "part f fun n pick n call f n call f plus n -1\nrun call f 3"
        for most in (1, 2, 3):
            self.assert_refused_equal(TooMany, most, asked, Program(text), "need", most)
        for most in (4, 5, 2000):
            self.assert_refused_equal(Endless, ("f", (0,)), asked, Program(text), "need", most)

    def test_the_sequence_of_errors(self):
        stuck = Program("part f fun x x\nrun f")
        for value in any_values():
            self.assert_refused(NotPlain, stuck, asked, stuck, value, value)
            if value not in WORDS:
                self.assert_refused(BadWay, value, asked, SUM_OF, value, value)
        for value in any_values() + [0, -1, 2001, 20000]:
            if type(value) is not int or not 1 <= value <= 2000:
                self.assert_refused(BadMost, value, asked, SUM_OF, "need", value)
        way = ("need", ((("add", 4), "name"),))
        self.assert_refused(BadWay, way, asked, SUM_OF, way, 9)
        self.assertEqual(asked(most=2000, way="need", program=SUM_OF).steps, 17)

    def test_no_ask(self):
        told = asked(SUM_OF, "need", 9)
        self.assertEqual(told.ask(numbers=(3, 4), name="add"), (7, 4, (1, 1)))
        others = [("add", (4, 3)), ("add", [3, 4]), ("add", (3,)), ("add", (3, 4, 5)), ("run", ()), ("add", ()),
                  (None, (3, 4)), ([], (3, 4)), ("add", None), ((3, 4), "add"), ("add", ((3, 4),)), ("add", (3, "4")), ([], {})]
        for name, numbers in others + [(value, value) for value in any_values()]:
            self.assert_refused_equal(NoAsk, (name, numbers), told.ask, name, numbers)
        one = asked(Program("part f fun x x\nrun plus call f 1 call f 0"), "need", 9)
        self.assertEqual(one.ask("f", (1,)), (1, 1, (1,)))
        for numbers in ((True,), (False,), [1], (1.0,)):
            self.assert_refused_equal(NoAsk, ("f", numbers), one.ask, "f", numbers)


class Told(Refusals, unittest.TestCase):
    def test_run_piece_and_book_beside_pieces(self):
        for program, way, told in short(120, 400):
            if way != without(way, "run"):
                continue
            here = pieces(program, way, MOST)
            self.assertEqual(told.run_piece(), here[0])
            book = told.book()
            self.assertEqual([book.parts, book.way], [parts_text(program), way])
            if way == "value":
                # By value all that is asked is run, too.
                self.assertEqual(book.pieces, here[1:])
            for piece in here[1:]:
                self.assertIn(piece[:2], book)
                self.assertEqual(book.piece(*piece[:2]), piece)
            self.assertEqual(whole(book, program.line("run")[4:], told.run_piece()), (told.end, told.steps))
            for piece in book.pieces[:5]:
                self.assertIs(is_piece(program, way, piece), True)
            self.assertLessEqual(len(book), len(told.asks))

    def test_pieces_of_arguments_that_nobody_looks_at(self):
        program = Program("part k fun x 1\npart f fun n pick n 0 call f plus n -1\nrun call k call f 3")
        told = asked(program, "need", 9)
        self.assertEqual([len(pieces(program, "need", 9)), len(told.book())], [2, 5])
        for run in range(4):
            alone = joined_text(parts_text(program), f"call f {run}")
            for piece in pieces(alone, "need", 99)[1:]:
                self.assertEqual(told.book().piece(*piece[:2]), piece)

    def test_ways_with_changes_in_the_runs_line(self):
        program = SUM_OF
        for changes, its in ((((("run", 1), "name"),), "need"), (((("run", 1), "name"), (("run", 5), "value")), "need")):
            told = asked(program, ("need", changes), 9)
            self.assertEqual([told.book().way, told.run_piece()], [its, pieces(program, ("need", changes), 99)[0]])
            self.assertEqual(told.steps, len(ended(program, ("need", changes), 99)))
        parts = "part f fun x x\npart g fun x call f plus x x"
        program = joined_text(parts, "call g 1")
        way = ("need", ((("g", 4), "name"), (("run", 1), "value")))
        self.assertEqual(asked(program, way, 9).book().way, ("need", ((("g", 4), "name"),)))

    def test_unlike_asks_with_one_piece(self):
        program = Program("part k fun x fun y y\nrun plus call call k 1 5 plus call call k 2 5 call call k 1 6")
        told = asked(program, "need", 9)
        self.assertEqual([len(told.asks), len(told.book())], [3, 2])
        self.assertEqual(told.book().pieces, pieces(program, "need", 99)[1:])

    def test_wide(self):
        """2000 rows are told, one more is not: of the run's line, of an ask's."""
        many = "part m fun x " + "plus x " * 9 + "x\n"
        wide = "call m call m " + "plus 0 " * 9 + "0"
        rows = 2 + 10 * (2 + 10 * 19)
        exact = f"plus {wide} let z 0 plus 0 plus 0 call m " + "plus 0 " * 3 + "0"
        for run, count in ((wide, rows), (exact, 2000), (exact.replace("let z 0", "let z 0 let z 0"), 2001)):
            told = asked(Program(many + "run " + run), "name", 99)
            self.assertEqual(told.steps, len(ended(Program(many + "run " + run), "name", 99999)))
            if count > 2000:
                self.assert_refused_equal(Wide, 2000, told.run_piece)
            else:
                self.assertEqual(len(told.run_piece()[3]), count)
            self.assertEqual(len(told.book()), 1)
            own = asked(Program(many + f"part g fun x {run}\nrun call g 1"), "name", 99)
            if count > 2000:
                self.assert_refused_equal(Wide, 2000, own.book)
            else:
                self.assertIn(count, [len(piece[3]) for piece in own.book().pieces])
            # The inner fun of a part of two arguments is a row of its own.
            two = asked(Program(many + f"part g fun x fun y {run}\nrun call call g 1 2"), "name", 99)
            if count >= 2000:
                self.assert_refused_equal(Wide, 2000, two.book)
            else:
                self.assertIn(count + 1, [len(piece[3]) for piece in two.book().pieces])
            self.assertLess(len(two.run_piece()[3]), 10)

    def test_sizes_of_far_runs(self):
        text = "part t fun n pick n 1 plus call t plus n -1 call t plus n -1\nrun call t 99"
        for way in ("need", "value"):
            told = asked(Program(text), way, 2000)
            book = told.book()
            self.assertEqual(whole(book, "call t 99", told.run_piece()), (told.end, told.steps))
            self.assertGreater(told.steps, 10 ** 30)
            (name, call), = [its for its, _ in requests(Program(text), way, told.run_piece())]
            self.assertEqual(size(book, name, call), told.ask("t", (99,))[1])

    def test_equality(self):
        one = asked(SUM_OF, "need", 9)
        self.assertTrue(one == asked(Program(SUM_OF.text), "need", 9) and not one != asked(SUM_OF, "need", 9))
        other = Program(SUM_OF.text.replace("3 4", "4 3"))
        for its in (asked(SUM_OF, "name", 9), asked(SUM_OF, "need", 8), asked(other, "need", 9), Run(SUM_OF, "need"),
                    one.asks, SUM_OF, one.book()):
            self.assertTrue(one != its and not one == its)
        for value in any_values():
            self.assertFalse(one == value)
        self.assertIsInstance(one, Asked)
        self.assertIsInstance(one.book(), Book)


class At(Refusals, unittest.TestCase):
    def by_hand(self, program, steps):
        """(PLACE, asks) of each step of the run by value, told by what each step stands under."""
        own = {}
        for name in program.parts:
            at = 2
            while program.word((name, at)) == "fun":
                at += 2
            own[(name, at)] = name
        run = Run(program, "value")
        opened, told = [], []
        for number in range(steps):
            place = run.next
            names = dict(run.sight())
            run.step()
            under = run.unders[-1]
            outer = opened[under] if under >= 0 else ()
            if place in own:
                name = place[0]
                binders = [program.line(name).split(" ")[at + 1] for at in range(2, place[1], 2)]
                outer = ((name, tuple(names[its][1] for its in binders)),) + outer
            opened.append(outer)
            told.append((place, outer))
        return told

    def test_each_number_of_short_runs(self):
        many = 0
        for program, way, told in short(150, 250):
            lines = [line.split(" ") for line in program.text.split("\n")]
            heads = [[line[at + 1] for at in range(2, len(line) - 1, 2) if line[at] == "fun"] for line in lines[:-1]]
            if way != "value" or any(len(set(head)) < len(head) for head in heads):
                continue
            by_hand = self.by_hand(program, told.steps)
            self.assertEqual([told.at(number) for number in range(told.steps)], by_hand)
            many += 1
        self.assertGreater(many, 60)

    def test_names_that_are_bound_twice(self):
        program = Program("part same fun x fun x plus x x\nrun call call same 1 plus 1 1")
        told = asked(program, "value", 9)
        run = ended(program, "value", 99)
        self.assertEqual([told.at(number)[0] for number in range(told.steps)], list(run.places))
        self.assertEqual([told.at(number)[1] for number in range(told.steps)], [()] * 8 + [(("same", (1, 2)),)] * 3)

    def test_far_inside(self):
        parts = "part t fun n pick n 1 plus call t plus n -1 call t plus n -1"
        program = joined_text(parts, "call t 99")
        told = asked(program, "value", 100)
        last = told.steps - 1
        self.assertEqual(told.at(last), (("t", 6), tuple(("t", (number,)) for number in range(100))))
        self.assertEqual([told.at(number)[0] for number in (0, 1, 2, 3)], [("run", 1), ("run", 2), ("run", 3), ("t", 4)])
        # The second one of both calls of t takes the same steps, at the end of the one around it.
        short_run = ended(joined_text(parts, "call t 7"), "value", 99999).places
        for number in range(0, len(short_run) - 3, 5):
            place, opened = told.at(told.steps - len(short_run) + 3 + number)
            self.assertEqual(place, short_run[3 + number])
            self.assertEqual(opened[-92:], tuple(("t", (number,)) for number in range(8, 100)))
        place, opened = told.at(told.steps // 2)
        self.assertEqual([numbers[0] for _, numbers in opened], list(range(100 - len(opened), 100)))

    def test_refused(self):
        for way in ("name", "need", ("value", ((("run", 1), "name"),)), ("need", ((("run", 1), "value"),))):
            told = asked(SUM_OF, way, 9)
            for number in (0, -1, None):
                self.assert_refused(BadWay, way, told.at, number)
        told = asked(SUM_OF, "value", 9)
        for value in any_values() + [-1, 17, 18, True, "0"]:
            if type(value) is not int or not 0 <= value < 17:
                self.assert_refused(BadMany, value, told.at, value)
        self.assertEqual(told.at(number=16)[0], ("add", 8))

    def test_nothing_is_run(self):
        with mock.patch("uselots.steps.advance", side_effect=AssertionError):
            with mock.patch("uselots.runs.advance", side_effect=AssertionError):
                told = asked(SUM_OF, "value", 9)
                self.assertEqual([told.at(4), told.steps, len(told.book())], [(("add", 4), ()), 17, 2])
                self.assertEqual(refused(ended, SUM_OF, "need", None), (BadMost, None))


class Ends(unittest.TestCase):
    def test_a_run_may_end_where_asking_does_not(self):
        program = Program("part loop fun x call loop x\npart one fun x 1\nrun call one call loop 3")
        self.assertEqual(refused(asked, program, "need", 9)[0], Endless)
        self.assertEqual(refused(pieces, program, "value", 99), (NotEnded, 99))
        self.assertEqual(len(pieces(program, "need", 99)), 2)


if __name__ == "__main__":
    unittest.main()
