"""The interface: its names stand in their files, with their arguments; and the conventions of point 2."""

import importlib
import inspect
import operator
import unittest

from helpers import any_values
from uselots.runs import Run, ended
from uselots.texts import Program

FUNCTIONS = {
    "texts": {"parts_text": ["program"], "joined_text": ["parts", "expression"]},
    "runs": {"ended": ["program", "way", "most"]},
    "uses": {"is_table": ["value"], "heights": ["table"], "tidied": ["table", "uses"], "united": ["table", "looks"],
             "parted": ["table", "use", "some"], "held": ["table", "use"], "uses_text": ["table"], "uses_in": ["text"]},
    "papers": {"paper": ["program", "way", "most"], "is_paper": ["program", "way", "value"],
               "wrong_row": ["program", "way", "value"], "shows_wrong_row": ["program", "way", "claim", "value"],
               "paper_end": ["program", "way", "value"], "ordered": ["program", "way", "value"]},
    "moments": {"looked": ["program", "way", "most"], "called": ["program", "way", "most"],
                "still": ["program", "way", "most", "number"], "over": ["program", "way", "most", "number"],
                "left": ["program", "way", "most", "number"], "needed": ["program", "way", "most"],
                "free_early": ["program", "most"], "free_anew": ["program", "most"]},
    "ways": {"counts": ["program", "way", "most"], "three": ["program", "most"], "least_times": ["program", "way", "most"],
             "mixtures": ["program", "some"], "cheapest": ["program", "some", "most"],
             "dearest": ["program", "some", "most"], "alike_ways": ["program", "one", "other", "most"]},
    "pieces": {"pieces": ["program", "way", "most"], "is_piece": ["program", "way", "value"],
               "requests": ["program", "way", "value"]},
}
METHODS = {
    ("texts", "Program"): {"__init__": ["text"], "line": ["name"], "word": ["place"], "inner": ["place"],
                           "around": ["place"], "bound": ["place"], "__eq__": ["other"]},
    ("runs", "Run"): {"__init__": ["program", "way"], "step": [], "go": ["most"], "back": ["many"], "sight": [],
                      "pile": [], "copy": [], "__len__": [], "__eq__": ["other"]},
}
ATTRIBUTES = {
    ("texts", "Program"): ("text", "parts", "places", "bindings"),
    ("runs", "Run"): ("program", "way", "end", "next", "places", "unders", "begins"),
}


def own(kind, name):
    return getattr(importlib.import_module("uselots." + kind), name)


class Names(unittest.TestCase):
    def test_functions(self):
        for kind, functions in FUNCTIONS.items():
            for name, parameters in functions.items():
                function = own(kind, name)
                self.assertTrue(inspect.isfunction(function), name)
                self.assertEqual(function.__module__, "uselots." + kind)
                self.assertEqual(list(inspect.signature(function).parameters), parameters, name)

    def test_classes_and_their_methods(self):
        for (kind, name), methods in METHODS.items():
            told = own(kind, name)
            self.assertEqual(told.__module__, "uselots." + kind)
            for method, parameters in methods.items():
                self.assertIn(method, vars(told))
                self.assertEqual(list(inspect.signature(vars(told)[method]).parameters), ["self"] + parameters, method)

    def test_attributes_are_set_when_an_object_is_created(self):
        program = Program("run 1")
        for (kind, name), attributes in ATTRIBUTES.items():
            thing = {"Program": program, "Run": Run(program, "need")}[name]
            for attribute in attributes:
                self.assertTrue(hasattr(thing, attribute), attribute)


class Conventions(unittest.TestCase):
    def test_operators(self):
        program = Program("run plus 1 2")
        things = [program, ended(program, "need", 1)]
        signs = [operator.lt, operator.le, operator.gt, operator.ge, operator.add, operator.sub, operator.mul,
                 operator.floordiv, operator.mod, operator.and_, operator.or_, operator.xor, operator.lshift,
                 operator.rshift, operator.contains, operator.getitem]
        for thing in things:
            for other in any_values() + things:
                for sign in signs:
                    with self.assertRaises(TypeError):
                        sign(thing, other)
            for sign in (iter, operator.neg, operator.pos, operator.invert):
                with self.assertRaises(TypeError):
                    sign(thing)

    def test_a_program_has_no_length(self):
        with self.assertRaises(TypeError):
            len(Program("run 1"))

    def test_returned_sequences_are_tuples(self):
        program = Program("part f fun x plus x x\nrun let y 1 call f y")
        run = ended(program, "value", 6)
        told = [program.parts, program.places, program.bindings, program.inner(("run", 1)), run.places, run.unders,
                run.begins, run.sight(), run.pile()]
        self.assertEqual([type(one) for one in told], [tuple] * len(told))
        self.assertTrue(all(type(place) is tuple for place in program.places + run.places))
        self.assertTrue(all(type(row) is tuple and type(row[1]) is tuple for row in run.sight()))

    def test_equal_calls_return_equal_results(self):
        text = "part f fun x plus x x\nrun let y 1 call f y"
        for way in ("name", "need", "value"):
            one, other = ended(Program(text), way, 99), ended(Program(text), way, 99)
            self.assertEqual([one, one.places, one.begins], [other, other.places, other.begins])

    def test_deeds_of_which_nothing_is_told_return_none(self):
        run = ended(Program("run plus 1 2"), "need", 2)
        self.assertIsNone(run.back(1))


if __name__ == "__main__":
    unittest.main()
