"""Point 13: parts alike."""

import importlib
import itertools
import unittest
from unittest import mock

from helpers import Refusals, any_values, refused
from plains import PLAINS, plain_sample
from samples import WORDS
from uselots.alike import alike, never_dearer, shows_surrounding, surrounding, table
from uselots.asking import arity, asked
from uselots.errors import (Alike, BadNumbers, BadWay, Endless, NoPart, NoProgram, NotPlain, OtherArity, TooMany)
from uselots.texts import Program, joined_text, parts_text

SOME = Program("part dup fun x plus x x\npart once fun x let y x plus y y\npart keep fun x fun y x\n"
               "part both fun x fun y pick 1 y x\npart three fun x plus x plus x plus x 0\n"
               "part zero fun x fun y 0\npart none fun x fun y pick 1 x 0\nrun 0")
MIXED = ("need", ((("once", 4), "name"),))
FUNCTIONS = (alike, never_dearer, surrounding)


def samples(many):
    """Plain programs that have parts of the same arity, with two of their names."""
    for program in PLAINS + [plain_sample(seed) for seed in range(many)]:
        for name, other in itertools.permutations(program.parts, 2):
            if arity(program, name) == arity(program, other):
                yield program, name, other


def few_asks():
    """For programs by lot: many of them ask for ever."""
    return mock.patch.object(importlib.import_module("uselots.alike"), "MOST_ASKS", 80)


class Tables(unittest.TestCase):
    @few_asks()
    def test_beside_asked(self):
        """Each row is what an ask of the part tells in a run that calls it so."""
        many = 0
        for program in PLAINS + [plain_sample(seed) for seed in range(80)]:
            for name in program.parts:
                for way in WORDS:
                    numbers = (-1, 0, 2) if arity(program, name) > 2 else (-2, -1, 0, 1, 3, 4)
                    try:
                        told = table(program, name, numbers, way)
                    except (Endless, TooMany):
                        continue
                    self.assertEqual([row[0] for row in told],
                                     list(itertools.product(numbers, repeat=arity(program, name))))
                    for arguments, result, steps, looks in told[::5]:
                        words = ["call"] * len(arguments) + [name] + [str(number) for number in arguments]
                        its = asked(joined_text(parts_text(program), " ".join(words)), way, 2000)
                        self.assertEqual(its.ask(name, arguments), (result, steps, looks))
                        many += 1
        self.assertGreater(many, 500)

    def test_the_first_argument_is_slowest(self):
        told = table(SOME, "both", (-3, 0, 7), "name")
        self.assertEqual([row[0] for row in told], [(a, b) for a in (-3, 0, 7) for b in (-3, 0, 7)])
        self.assertEqual(told[1], ((-3, 0), -3, 4, (1, 0)))
        self.assertEqual(table(way="value", numbers=(5,), name="keep", program=SOME), (((5, 5), 5, 2, (1, 0)),))

    def test_each_way(self):
        self.assertEqual([table(SOME, "once", (1,), way)[0][2:] for way in WORDS + (MIXED,)],
                         [(6, (2,)), (5, (1,)), (5, (1,)), (6, (2,))])

    def test_no_more_than_eight_numbers_nor_2000_asks(self):
        eight = tuple(range(-99, 100))[::26]
        self.assertEqual(len(eight), 8)
        self.assertEqual(len(table(SOME, "dup", eight, "need")), 8)
        self.assertEqual(len(table(SOME, "both", eight, "need")), 64)
        four = Program("part four fun a fun b fun c fun d a\npart next fun a fun b fun c fun d b\nrun 0")
        self.assertEqual(len(table(four, "four", tuple(range(6)), "need")), 1296)
        self.assertEqual(refused(table, four, "four", tuple(range(7)), "need"), (TooMany, 2000))
        # Both tables count together.
        self.assertEqual(refused(alike, four, "four", "next", tuple(range(6)), "need"), (TooMany, 2000))
        self.assertEqual(alike(four, "four", "next", tuple(range(5)), "value")[0], "apart")
        # Those of one table that the other one has are not met twice.
        self.assertEqual(alike(four, "four", "four", tuple(range(6)), "value"), ("alike",))


class Alikes(unittest.TestCase):
    def by_hand(self, program, name, other, numbers, way):
        """What alike and never_dearer tell of two tables."""
        rows = list(zip(table(program, name, numbers, way), table(program, other, numbers, way)))
        same, never = [], []
        for (arguments, result, steps, looks), (_, its, theirs, seen) in rows:
            equal = {"name": looks == seen, "need": [bool(one) for one in looks] == [bool(one) for one in seen]}
            less = {"name": all(one <= other for one, other in zip(looks, seen)),
                    "need": all(one == 0 or other > 0 for one, other in zip(looks, seen))}
            same.append((arguments, result == its, steps == theirs, equal.get(way, True)))
            never.append((arguments, result == its, steps <= theirs, less.get(way, True)))
        return self.first(same) or ("alike",), self.first(never) or ("never",)

    def first(self, rows):
        for arguments, *held in rows:
            for holds, word in zip(held, ("result", "steps", "looks")):
                if not holds:
                    return ("apart", arguments, word)
        return None

    @few_asks()
    def test_beside_tables(self):
        words = {}
        for program, name, other in samples(150):
            numbers = (-1, 0, 2)
            for way in WORDS:
                try:
                    same, never = self.by_hand(program, name, other, numbers, way)
                except (Endless, TooMany):
                    continue
                self.assertEqual(alike(program, name, other, numbers, way), same)
                self.assertEqual(never_dearer(program, name, other, numbers, way), never)
                for told in (same, never):
                    words[told[-1]] = words.get(told[-1], 0) + 1
        self.assertGreater(min(words[word] for word in ("never", "result", "steps")), 10, words)

    def test_results_steps_looks_in_this_sequence(self):
        program = Program("part a fun x plus x x\npart b fun x plus x 0\npart c fun x plus x x\npart d fun x let y x plus y y\n"
                          "part e fun x plus 0 x\npart g fun x plus 0 0\nrun 0")
        for way in WORDS:
            self.assertEqual(alike(program, "a", "b", (0, 1), way),
                             ("apart", (0,), "looks") if way == "name" else ("apart", (1,), "result"))
            self.assertEqual(alike(program, "a", "b", (1, 2), way), ("apart", (1,), "result"))
            self.assertEqual(alike(program, "a", "c", (1, 2), way), ("alike",))
            self.assertEqual(alike(program, "a", "d", (1, 2), way), ("apart", (1,), "steps"))
            self.assertEqual(alike(program, "b", "e", (0, 1), way), ("alike",))
        self.assertEqual([alike(program, "b", "g", (0,), way) for way in WORDS],
                         [("apart", (0,), "looks"), ("apart", (0,), "looks"), ("alike",)])
        # By need only which arguments are looked at at all.
        self.assertEqual([alike(program, "a", "b", (0,), way) for way in WORDS],
                         [("apart", (0,), "looks"), ("alike",), ("alike",)])
        changed = ("need", ((("d", 4), "name"),))
        self.assertEqual(alike(program, "a", "b", (0,), changed), ("alike",))
        self.assertEqual(alike(program, "a", "b", (0,), ("name", ((("d", 4), "need"),)))[0], "apart")
        self.assertEqual(alike(program=program, name="a", other="a", numbers=(0,), way="name"), ("alike",))

    def test_never_dearer(self):
        program = Program("part a fun x plus x x\npart b fun x plus x 0\npart g fun x plus 0 0\npart h fun x let y x plus y y\nrun 0")
        self.assertEqual([never_dearer(program, "b", "a", (0,), way) for way in WORDS], [("never",)] * 3)
        self.assertEqual([never_dearer(program, "a", "b", (0,), way) for way in WORDS],
                         [("apart", (0,), "looks"), ("never",), ("never",)])
        self.assertEqual([never_dearer(program, "b", "g", (0,), way) for way in WORDS],
                         [("apart", (0,), "looks"), ("apart", (0,), "looks"), ("never",)])
        self.assertEqual([never_dearer(program, "g", "b", (0,), way) for way in WORDS], [("never",)] * 3)
        self.assertEqual([never_dearer(program, "a", "h", (1,), way) for way in WORDS], [("never",)] * 3)
        self.assertEqual([never_dearer(program, "h", "a", (1,), way) for way in WORDS], [("apart", (1,), "steps")] * 3)
        self.assertEqual(never_dearer(program, "a", "b", (0, 1), "need"), ("apart", (1,), "result"))
        self.assertEqual(never_dearer(way="need", numbers=(0,), other="a", name="a", program=program), ("never",))


class Surroundings(Refusals, unittest.TestCase):
    def told_apart(self, program, way, texts):
        its = [asked(joined_text(parts_text(program), text), way, 2000) for text in texts]
        return (its[0].end, its[0].steps) != (its[1].end, its[1].steps)

    @few_asks()
    def test_beside_asked(self):
        many = {True: 0, False: 0}
        for program, name, other in samples(250):
            for way in WORDS:
                told = refused(alike, program, name, other, (-1, 0, 2), way)
                if told is not None:
                    self.assertEqual(refused(surrounding, program, name, other, (-1, 0, 2), way), told)
                    continue
                if alike(program, name, other, (-1, 0, 2), way) == ("alike",):
                    self.assert_refused(Alike, other, surrounding, program, name, other, (-1, 0, 2), way)
                    self.assert_refused(Alike, other, shows_surrounding, program, name, other, (-1, 0, 2), way, None)
                    many[False] += 1
                    continue
                texts = surrounding(program, name, other, (-1, 0, 2), way)
                self.assertEqual(type(texts), tuple)
                unlike = [pair for pair in zip(*[text.split(" ") for text in texts]) if pair[0] != pair[1]]
                self.assertEqual(unlike, [(name, other)])
                self.assertTrue(self.told_apart(program, way, texts))
                self.assertIs(shows_surrounding(program, name, other, (-1, 0, 2), way, texts), True)
                self.assertIs(shows_surrounding(program, name, other, (-1, 0, 2), way, texts[::-1]), False)
                many[True] += 1
        self.assertGreater(min(many.values()), 5)

    def test_looks_that_make_up_for_steps(self):
        """Called with numbers both take the same steps; with longer arguments they do not."""
        program = Program("part a fun x plus x 1\npart b fun x let y 1 let z 1 1\npart c fun x let y 0 plus x 0\n"
                          "part d fun x plus 0 plus x x\nrun 0")
        same = Program("part one fun x plus x plus x 0\npart two fun x let y 0 plus x plus 0 0\nrun 0")
        self.assertEqual([row[0][1:] for row in (table(same, name, (3,), "name") for name in ("one", "two"))],
                         [(6, 5, (2,)), (3, 6, (1,))])
        even = Program("part one fun x pick plus x x x x\npart two fun x let y 0 pick plus 0 0 x x\nrun 0")
        self.assertEqual([table(even, name, (0,), "name")[0][1:] for name in ("one", "two")], [(0, 5, (3,)), (0, 6, (1,))])
        lone = Program("part one fun x plus x x\npart two fun x let y 0 plus x 0\nrun 0")
        self.assertEqual([table(lone, name, (0,), "name")[0][1:] for name in ("one", "two")], [(0, 3, (2,)), (0, 4, (1,))])
        plain = ("call one 0", "call two 0")
        self.assertFalse(self.told_apart(lone, "name", plain))
        self.assertIs(shows_surrounding(lone, "one", "two", (0,), "name", plain), False)
        texts = surrounding(lone, "one", "two", (0,), "name")
        self.assertTrue(self.told_apart(lone, "name", texts))
        self.assertIs(shows_surrounding(lone, "one", "two", (0,), "name", texts), True)
        need = Program("part one fun x fun y plus x 1\npart two fun x fun y let z 0 let z 0 let z 0 1\nrun 0")
        self.assertEqual([table(need, name, (0,), "need")[0][2:] for name in ("one", "two")], [(4, (1, 0)), (5, (0, 0))])
        texts = surrounding(need, "one", "two", (0,), "need")
        self.assertTrue(self.told_apart(need, "need", texts))
        self.assertEqual(alike(program, "a", "b", (0,), "need")[0], "apart")
        for name, other in itertools.permutations("abcd", 2):
            for way in WORDS:
                if alike(program, name, other, (0,), way) != ("alike",):
                    self.assertTrue(self.told_apart(program, way, surrounding(program, name, other, (0,), way)))

    def test_shows(self):
        def shown(one, other, name="dup", its="once", way="name"):
            return shows_surrounding(SOME, name, its, (1, 2), way, (one, other))

        for one in ("call dup 1", "plus 1 call dup 7", "let z call dup 0 z", "pick 0 call dup 1 2", "call once call dup 3",
                    "call dup 99", "plus call dup 1 call dup 1"):
            self.assertIs(shown(one, one[::-1].replace("pud", "ecno", 1)[::-1]), True, one)
        for one, other in (("call dup 1", "call dup 1"), ("call dup 1", "call once 2"), ("plus 1 1", "plus 1 1"),
                           ("call once 1", "call dup 1"), ("plus call dup 1 call dup 2", "plus call once 1 call once 2"),
                           ("call dup 1", "call three 1"), ("call dup 1", "call once 1 "), ("call  dup 1", "call  once 1"),
                           ("", ""), ("dup", "once"), ("call dup", "call once"), ("plus 0 dup", "plus 0 once"),
                           ("let f dup call f 1", "let f once call f 1"), ("pair call dup 1 2", "pair call once 1 2"),
                           ("fun x call dup x", "fun x call once x"), ("call call dup 1 2", "call call once 1 2"),
                           ("5\nrun call dup 1", "5\nrun call once 1"), ("call dup x", "call once x"),
                           ("run call dup 1", "run call once 1"), ("call dup 100", "call once 100"),
                           ("let z call call keep 1 2 z", "let z call call both 1 2 z")):
            self.assertIs(shown(one, other), False, (one, other))
        # In what is not picked they may stand, but do nothing.
        self.assertIs(shown("pick 1 call dup 1 2", "pick 1 call once 1 2"), False)
        for value in any_values() + [["call dup 1", "call once 1"], ("call dup 1",), ("call dup 1", "call once 1", ""),
                                     ("call dup 1", None), (1, 2), ({}, []), "call dup 1", ("call dup 1", ["call once 1"])]:
            self.assertIs(shows_surrounding(SOME, "dup", "once", (1, 2), "name", value), False, value)
        self.assertIs(shows_surrounding(value=("call dup 1", "call once 1"), way="need", numbers=(1,), other="once", name="dup",
                                        program=SOME), True)

    def test_texts_of_which_asked_tells_nothing(self):
        program = Program("part a fun n pick n 0 call a plus n -1\npart b fun n pick n 0 call b n\nrun 0")
        self.assertEqual(alike(program, "a", "b", (0,), "need"), ("alike",))
        program = Program("part a fun n pick n 0 call a plus n -1\npart b fun n pick n 1 call b n\nrun 0")
        self.assertEqual(alike(program, "a", "b", (0,), "need"), ("apart", (0,), "result"))
        self.assertIs(shows_surrounding(program, "a", "b", (0,), "need", ("call a 0", "call b 0")), True)
        self.assertIs(shows_surrounding(program, "a", "b", (0,), "need", ("call a 1", "call b 1")), False)
        self.assertIs(shows_surrounding(program, "b", "a", (0,), "need", ("call b 1", "call a 1")), False)
        self.assertIs(shows_surrounding(program, "a", "b", (0,), "need", ("call a -1", "call b -1")), False)


class Refused(Refusals, unittest.TestCase):
    def test_no_program_and_not_plain(self):
        stuck = Program("part f fun x x\nrun f")
        for function, many in ((table, 3), (alike, 4), (never_dearer, 4), (surrounding, 4), (shows_surrounding, 5)):
            for value in any_values():
                if not isinstance(value, Program):
                    self.assert_refused(NoProgram, value, function, value, *[None] * many)
            self.assert_refused(NotPlain, stuck, function, stuck, *[None] * many)

    def test_no_part_and_other_arity(self):
        for value in any_values() + ["once ", "y", "DUP"]:
            self.assert_refused(NoPart, value, table, SOME, value, None, None)
            for function in FUNCTIONS:
                self.assert_refused(NoPart, value, function, SOME, value, None, None, None)
                self.assert_refused(NoPart, value, function, SOME, "dup", value, None, None)
            self.assert_refused(NoPart, value, shows_surrounding, SOME, "dup", value, None, None, None)
        for name, other in (("dup", "both"), ("keep", "once")):
            for function in FUNCTIONS:
                self.assert_refused(OtherArity, other, function, SOME, name, other, None, None)
            self.assert_refused(OtherArity, other, shows_surrounding, SOME, name, other, None, None, None)

    def test_bad_numbers(self):
        wrong = [(), (1, 1), (2, 1), (100,), (-100,), (1, 2, 3, 4, 5, 6, 7, 8, 9), [1], (True,), (0, True), ("1",), (1, None),
                 ((1,),), {1: 2}, (0, 1, 1)]
        for value in any_values() + wrong:
            if value in ((1,), (1, 2)) and type(value) is tuple and type(value[0]) is int:
                continue
            self.assert_refused(BadNumbers, value, table, SOME, "dup", value, None)
            for function in FUNCTIONS:
                self.assert_refused(BadNumbers, value, function, SOME, "dup", "once", value, None)
            self.assert_refused(BadNumbers, value, shows_surrounding, SOME, "dup", "once", value, None, None)
        self.assertEqual(len(table(SOME, "dup", (-99, 99), "need")), 2)

    def test_bad_way(self):
        program = joined_text(parts_text(SOME), "call dup 1")
        ways = [("need", ((("run", 1), "name"),)), ("need", ((("once", 4), "name"), (("run", 1), "name"))), "Need", ("need", ())]
        for value in any_values() + ways:
            if value not in WORDS:
                self.assert_refused(BadWay, value, table, program, "dup", (1,), value)
                for function in FUNCTIONS:
                    self.assert_refused(BadWay, value, function, program, "dup", "once", (1,), value)
                    self.assert_refused(BadWay, value, function, program, "dup", "dup", (1,), value)
                self.assert_refused(BadWay, value, shows_surrounding, program, "dup", "once", (1,), value, None)
        self.assertEqual(alike(program, "dup", "once", (1,), MIXED)[0], "apart")

    def test_endless_and_too_many(self):
        """name's whole table ahead of other's, whichever comes first in it."""
        text = ("part loop fun n call loop n\npart down fun n call down plus n -1\npart late fun n pick n 0 pick plus n -1 0 call loop n\n"
                "part fine fun n n\npart more fun n pick n 0 pick plus n -1 call loop n call down n\nrun 0")
        program = Program(text)
        for function in FUNCTIONS:
            self.assert_refused_equal(Endless, ("loop", (0,)), function, program, "loop", "down", (0, 1), "need")
            self.assert_refused_equal(TooMany, 2000, function, program, "down", "loop", (0, 1), "need")
            self.assert_refused_equal(TooMany, 2000, function, program, "fine", "down", (0, 1), "need")
            self.assert_refused_equal(Endless, ("loop", (2,)), function, program, "late", "down", (0, 1, 2, 3), "need")
            self.assert_refused_equal(Endless, ("loop", (1,)), function, program, "more", "fine", (0, 1, 2), "need")
            self.assert_refused_equal(TooMany, 2000, function, program, "more", "fine", (0, 2), "need")
        self.assert_refused_equal(Endless, ("loop", (2,)), table, program, "late", (0, 1, 2, 3), "value")
        self.assertEqual(alike(program, "late", "fine", (0, 1), "value"), ("apart", (0,), "steps"))
        for value in (None, ("call fine 1", "call down 1")):
            self.assert_refused_equal(TooMany, 2000, shows_surrounding, program, "fine", "down", (0, 1), "need", value)


if __name__ == "__main__":
    unittest.main()
