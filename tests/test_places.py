"""Point 4: PLACES of programs, what stands there, and which values are WAYS."""

import unittest

from helpers import Refusals, any_values
from uselots.errors import BadPlace, BadWay, NoPart
from uselots.runs import Run
from uselots.texts import Program

MANY = Program(
    "part f fun x fun y let z pair x y call g z\n"
    "part g fun p plus first p second p\n"
    "run let a fun a call a 5 let a less 1 -2 pick a call call f 1 2 g")


class Properties(unittest.TestCase):
    def test_text_and_parts(self):
        self.assertEqual((MANY.text[:6], MANY.parts), ("part f", ("f", "g")))
        self.assertEqual((Program("run 1").text, Program("run 1").parts), ("run 1", ()))

    def test_parts_stand_in_sequence(self):
        self.assertEqual(Program("part z fun x x\npart a fun x x\nrun 1").parts, ("z", "a"))

    def test_places(self):
        in_f = [("f", at) for at in (2, 4, 6, 8, 9, 10, 11, 12, 13)]
        in_g = [("g", at) for at in (2, 4, 5, 6, 7, 8)]
        in_run = [("run", at) for at in (1, 3, 5, 6, 7, 8, 10, 11, 12, 13, 14, 15, 16, 17, 18, 19, 20)]
        self.assertEqual(MANY.places, tuple(in_f + in_g + in_run))
        self.assertEqual(Program("run 1").places, (("run", 1),))

    def test_bindings(self):
        self.assertEqual(MANY.bindings, (("f", 6), ("f", 8), ("f", 11), ("run", 1), ("run", 5), ("run", 8),
                                         ("run", 15), ("run", 16)))
        self.assertEqual(Program("run plus 1 2").bindings, ())

    def test_programs_are_equal_by_texts(self):
        self.assertTrue(MANY == Program(MANY.text))
        self.assertFalse(MANY != Program(MANY.text))
        self.assertFalse(MANY == Program("run 1"))
        self.assertTrue(Program("run fun x x") != Program("run fun y y"))
        for value in any_values() + [MANY.text]:
            if not isinstance(value, Program):
                self.assertFalse(MANY == value)
                self.assertTrue(value != MANY)

    def test_properties_are_set_on_each_object(self):
        for name, kind in (("text", str), ("parts", tuple), ("places", tuple), ("bindings", tuple)):
            self.assertIs(type(getattr(MANY, name)), kind)


class Looks(Refusals, unittest.TestCase):
    def test_line(self):
        for name, line in zip(("f", "g", "run"), MANY.text.split("\n")):
            self.assertEqual(MANY.line(name), line)

    def test_word(self):
        for place in MANY.places:
            name, at = place
            self.assertEqual(MANY.word(place), MANY.line(name).split(" ")[at])

    def test_inner(self):
        for place, told in ((("f", 2), [4]), (("f", 4), [6]), (("f", 6), [8, 11]), (("f", 8), [9, 10]), (("f", 9), []),
                            (("g", 4), [5, 7]), (("g", 5), [6]), (("run", 1), [3, 8]), (("run", 7), []),
                            (("run", 14), [])):
            self.assertEqual(MANY.inner(place), tuple((place[0], at) for at in told), place)
        pick = Program("run pick plus 1 2 fun x x second pair 3 4")
        self.assertEqual(pick.inner(("run", 1)), (("run", 2), ("run", 5), ("run", 8)))

    def test_around_turns_inner_round(self):
        for place in MANY.places:
            for inner in MANY.inner(place):
                self.assertEqual(MANY.around(inner), place)
        heads = [place for place in MANY.places if MANY.around(place) is None]
        self.assertEqual(heads, [("f", 2), ("g", 2), ("run", 1)])

    def test_bound(self):
        for place, at in ((("f", 9), 2), (("f", 10), 4), (("f", 12), None), (("f", 13), 6), (("g", 6), 2),
                          (("run", 6), 3), (("run", 14), 8), (("f", 2), None), (("run", 1), None), (("run", 7), None)):
            self.assertEqual(MANY.bound(place), None if at is None else (place[0], at), place)

    def test_bound_several_times(self):
        program = Program("run fun x let x x call fun x let y x let x y x x")
        told = {at: program.bound(("run", at)) for at in (5, 11, 14, 15, 16)}
        self.assertEqual(told, {5: ("run", 1), 11: ("run", 7), 14: ("run", 9), 15: ("run", 12), 16: ("run", 3)})

    def test_a_lets_first_e_has_not_its_name(self):
        program = Program("run let x let x 1 x x")
        self.assertEqual([program.bound(("run", at)) for at in (6, 7)], [("run", 3), ("run", 1)])

    def test_a_part_named_ahead_of_its_line(self):
        program = Program("part f fun x g\npart g fun x x\nrun f")
        self.assertEqual([program.bound(("f", 4)), program.word(("f", 4))], [None, "g"])

    def test_by_names_of_arguments(self):
        self.assertEqual([MANY.line(name="g")[:6], MANY.word(place=("g", 4)), MANY.inner(place=("f", 2)),
                          MANY.around(place=("f", 4)), MANY.bound(place=("f", 9))],
                         ["part g", "plus", (("f", 4),), ("f", 2), ("f", 2)])

    def test_no_part(self):
        for value in any_values() + ["h", "x", "F", "f ", ("f",), ["f"]]:
            if not (type(value) is str and value in ("f", "g", "run")):
                self.assert_refused(NoPart, value, MANY.line, value)

    def test_bad_place(self):
        wrong = any_values() + [
            ["run", 1], ("run", 0), ("run", 2), ("run", 4), ("run", 9), ("run", 21), ("run", -1), ("run", 10 ** 8),
            ("f", 0), ("f", 1), ("f", 3), ("f", 5), ("g", 9), ("h", 2), ("x", 1), ("run", 1, 2), ("run",),
            ("run", True), ("run", "1"), (1, "run"), ("f'", 2), (("run",), 1), "run 1", ("run", 1.0)]
        for look in (MANY.word, MANY.inner, MANY.around, MANY.bound):
            for value in wrong:
                self.assert_refused(BadPlace, value, look, value)


class Ways(Refusals, unittest.TestCase):
    def test_words(self):
        for word in ("name", "need", "value"):
            self.assertEqual(Run(MANY, word).way, word)

    def test_changes(self):
        ways = [("need", ((("f", 6), "name"),)), ("name", ((("run", 1), "value"),)),
                ("value", tuple((place, "need") for place in MANY.bindings)),
                ("need", ((("f", 6), "value"), (("f", 8), "name"), (("run", 16), "value")))]
        for way in ways:
            self.assertEqual(Run(MANY, way).way, way)

    def test_no_ways(self):
        one = (("f", 6), "name")
        two = (("f", 8), "name")
        wrong = [value for value in any_values() if value != "need"] + [
            "Need", "names", "run", ("need",), ("need", ()), ("need", one), ("need", (one, two), ()), ["need", (one,)],
            ("need", [one]), ("need", (list(one),)), ("need", ((["f", 6], "name"),)),
            ("need", (two, one)), ("need", (one, one)), ("need", (one, (("f", 6), "value"))),
            ("need", ((("f", 6), "value"), one)), ("need", ((("f", 6), "need"),)), ("name", (one,)),
            ("need", (one, (("f", 8), "need"))), ("both", (one,)), (None, (one,)), (("need",), (one,)),
            ("need", ((("f", 6), "names"),)), ("need", ((("f", 6), None),)), ("need", ((("f", 6), True),)),
            ("need", ((("f", 4), "name"),)), ("need", ((("f", 7), "name"),)), ("need", ((("run", 7), "name"),)),
            ("need", ((("h", 6), "name"),)), ("need", ((("f", True), "name"),)), ("need", ((("f", 6), "name", 1),)),
            ("need", ((("f", 6),),)), ("need", (None,)), ("need", None), ("need", "name"), (one, "need"),
            ("need", (one, None)), ("need", ((None, "name"),)), ("need", {("f", 6): "name"})]
        for way in wrong:
            self.assert_refused(BadWay, way, Run, MANY, way)

    def test_a_true_is_no_one(self):
        program = Program("run call fun x x 1")
        self.assertEqual(Run(program, ("need", ((("run", 1), "name"),))).way[1][0][0], ("run", 1))
        self.assert_refused(BadWay, way := ("need", ((("run", True), "name"),)), Run, program, way)

    def test_a_way_of_one_program_alone(self):
        way = ("need", ((("f", 6), "name"),))
        self.assert_refused(BadWay, way, Run, Program("run let x 1 x"), way)
        self.assert_refused(BadWay, way, Run, Program("part f fun x plus 1 plus x x\nrun 1"), way)


if __name__ == "__main__":
    unittest.main()
