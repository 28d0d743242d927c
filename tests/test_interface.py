"""The interface: its names stand in their files, with their arguments; and the conventions of point 2."""

import importlib
import inspect
import operator
import unittest

from helpers import any_values
from uselots.asking import asked
from uselots.benches import Bench
from uselots.books import Book, joined, least, needs, size, times
from uselots.desk import Desk
from uselots.exchanges import exchanged_run, outer_calls
from uselots.pieces import pieces
from uselots.runs import ended
from uselots.texts import Program

FUNCTIONS = {
    "texts": {"parts_text": ["program"], "joined_text": ["parts", "expression"]},
    "runs": {"ended": ["program", "way", "most"]},
    "uses": {"is_table": ["value"], "heights": ["table"], "tidied": ["table", "uses"], "united": ["table", "looks"],
             "parted": ["table", "use", "some"], "held": ["table", "use"], "uses_text": ["table"], "uses_in": ["text"]},
    "papers": {"paper": ["program", "way", "most"], "is_paper": ["program", "way", "value"],
               "wrong_row": ["program", "way", "value"], "shows_wrong_row": ["program", "way", "claim", "value"],
               "paper_end": ["program", "way", "value"], "ordered": ["program", "way", "value"]},
    "moments": {"looked": ["program", "way", "most"], "called": ["program", "way", "most"],
                "still": ["program", "way", "most", "number"], "over": ["program", "way", "most", "number"],
                "left": ["program", "way", "most", "number"], "needed": ["program", "way", "most"],
                "free_early": ["program", "most"], "free_anew": ["program", "most"]},
    "ways": {"counts": ["program", "way", "most"], "three": ["program", "most"], "least_times": ["program", "way", "most"],
             "mixtures": ["program", "some"], "cheapest": ["program", "some", "most"],
             "dearest": ["program", "some", "most"], "alike_ways": ["program", "one", "other", "most"]},
    "pieces": {"pieces": ["program", "way", "most"], "is_piece": ["program", "way", "value"],
               "requests": ["program", "way", "value"]},
    "books": {"size": ["book", "name", "call"], "times": ["book", "name", "call"], "needs": ["book", "name", "call"],
              "least": ["book", "name", "call"], "joined": ["one", "other"], "whole": ["book", "expression", "piece"],
              "settled": ["book", "expression"]},
    "asking": {"is_plain": ["program"], "arity": ["program", "name"], "asked": ["program", "way", "most"]},
    "exchanges": {"exchanged": ["program", "name", "line"], "outer_calls": ["program", "way", "most", "name"],
                  "compared": ["program", "way", "most", "name", "line"],
                  "predicted": ["program", "way", "most", "name", "book"], "exchanged_run": ["run", "name", "line"],
                  "predicted_run": ["program", "way", "most", "number", "name", "book"]},
    "alike": {"table": ["program", "name", "numbers", "way"], "alike": ["program", "name", "other", "numbers", "way"],
              "never_dearer": ["program", "name", "other", "numbers", "way"],
              "surrounding": ["program", "name", "other", "numbers", "way"],
              "shows_surrounding": ["program", "name", "other", "numbers", "way", "value"]},
    "charges": {"begun": ["program", "way", "most"], "path": ["program", "way", "most", "number"],
                "by_place": ["program", "way", "most"], "by_line": ["program", "way", "most"],
                "callers": ["program", "way", "most"], "dearest_path": ["program", "way", "most"],
                "longest": ["program", "way", "most"]},
    "journals": {"journal": ["bench"], "read_journal": ["text"]},
}
METHODS = {
    ("texts", "Program"): {"__init__": ["text"], "line": ["name"], "word": ["place"], "inner": ["place"],
                           "around": ["place"], "bound": ["place"], "__eq__": ["other"]},
    ("runs", "Run"): {"__init__": ["program", "way"], "step": [], "go": ["most"], "back": ["many"], "sight": [],
                      "pile": [], "copy": [], "__len__": [], "__eq__": ["other"]},
    ("books", "Book"): {"__init__": ["parts", "way"], "put": ["piece"], "learn": ["program", "most"],
                        "drop": ["name", "call"], "piece": ["name", "call"], "__len__": [], "__contains__": ["value"],
                        "__eq__": ["other"]},
    ("asking", "Asked"): {"ask": ["name", "numbers"], "run_piece": [], "book": [], "at": ["number"], "__eq__": ["other"]},
    ("benches", "Bench"): {"__init__": ["text", "way"], "go": ["most"], "back": ["many"], "line": ["name", "line"],
                           "expression": ["text"], "bind": ["way"], "learn": [], "watch": ["place"], "unwatch": ["place"],
                           "run_now": [], "book_now": [], "next_place": [], "signs": [], "known": [], "undo": [], "redo": [],
                           "block": [], "keep": [], "tried": ["look", "keep"], "copy": [], "__len__": [],
                           "__contains__": ["value"], "__eq__": ["other"]},
    ("desk", "Desk"): {"__init__": ["text"], "say": ["line"]},
}
ATTRIBUTES = {
    ("texts", "Program"): ("text", "parts", "places", "bindings"),
    ("runs", "Run"): ("program", "way", "end", "next", "places", "unders", "begins"),
    ("books", "Book"): ("parts", "way", "pieces"),
    ("asking", "Asked"): ("end", "steps", "asks"),
    ("benches", "Bench"): ("program", "way", "watched", "deeds"),
    ("desk", "Desk"): ("bench",),
}


def one_of_each():
    """An object of each class of the interface, by its name."""
    program = Program("part f fun x x\nrun call f 1")
    return {"Program": program, "Run": ended(program, "need", 1), "Book": Book("part f fun x x", "need"),
            "Asked": asked(program, "value", 9), "Bench": Bench(program.text, "need"),
            "Desk": Desk(program.text + "\nway need\ndeeds")}


def own(kind, name):
    return getattr(importlib.import_module("uselots." + kind), name)


class Names(unittest.TestCase):
    def test_functions(self):
        for kind, functions in FUNCTIONS.items():
            for name, parameters in functions.items():
                function = own(kind, name)
                self.assertTrue(inspect.isfunction(function), name)
                self.assertEqual(function.__module__, "uselots." + kind)
                self.assertEqual(list(inspect.signature(function).parameters), parameters, name)

    def test_classes_and_their_methods(self):
        for (kind, name), methods in METHODS.items():
            told = own(kind, name)
            self.assertEqual(told.__module__, "uselots." + kind)
            for method, parameters in methods.items():
                self.assertIn(method, vars(told))
                self.assertEqual(list(inspect.signature(vars(told)[method]).parameters), ["self"] + parameters, method)

    def test_what_stands_behind_a_star_is_passed_by_name(self):
        keep = inspect.signature(Bench.tried).parameters["keep"]
        self.assertEqual([keep.kind, keep.default], [inspect.Parameter.KEYWORD_ONLY, False])

    def test_attributes_are_set_when_an_object_is_created(self):
        for (kind, name), attributes in ATTRIBUTES.items():
            thing = one_of_each()[name]
            self.assertIsInstance(thing, own(kind, name))
            for attribute in attributes:
                self.assertTrue(hasattr(thing, attribute), attribute)


class Conventions(unittest.TestCase):
    def test_operators(self):
        things = list(one_of_each().values())
        signs = [operator.lt, operator.le, operator.gt, operator.ge, operator.add, operator.sub, operator.mul,
                 operator.floordiv, operator.mod, operator.and_, operator.or_, operator.xor, operator.lshift,
                 operator.rshift, operator.getitem]
        for thing in things:
            more = [] if isinstance(thing, (Book, Bench)) else [operator.contains]
            for other in any_values() + things:
                for sign in signs + more:
                    with self.assertRaises(TypeError):
                        sign(thing, other)
            for sign in (iter, operator.neg, operator.pos, operator.invert):
                with self.assertRaises(TypeError):
                    sign(thing)

    def test_programs_and_asked_have_no_length(self):
        for name in ("Program", "Asked", "Desk"):
            with self.assertRaises(TypeError):
                len(one_of_each()[name])

    def test_returned_sequences_are_tuples(self):
        program = Program("part f fun x plus x x\nrun let y 1 call f y")
        run = ended(program, "value", 6)
        told = [program.parts, program.places, program.bindings, program.inner(("run", 1)), run.places, run.unders,
                run.begins, run.sight(), run.pile()]
        self.assertEqual([type(one) for one in told], [tuple] * len(told))
        self.assertTrue(all(type(place) is tuple for place in program.places + run.places))
        self.assertTrue(all(type(row) is tuple and type(row[1]) is tuple for row in run.sight()))

    def test_equal_calls_return_equal_results(self):
        text = "part f fun x plus x x\nrun let y 1 call f y"
        for way in ("name", "need", "value"):
            one, other = ended(Program(text), way, 99), ended(Program(text), way, 99)
            self.assertEqual([one, one.places, one.begins], [other, other.places, other.begins])

    def test_deeds_of_which_nothing_is_told_return_none(self):
        run = ended(Program("run plus 1 2"), "need", 2)
        self.assertIsNone(run.back(1))
        program = one_of_each()["Program"]
        book = Book("part f fun x x", "need")
        piece = pieces(program, "need", 9)[1]
        book.put(piece)
        self.assertIsNone(book.drop(*piece[:2]))
        bench = Bench(program.text, "need")
        bench.go(1)
        told = [bench.back(1), bench.watch(("run", 1)), bench.unwatch(("run", 1)), bench.line("f", "part f fun x 1"),
                bench.expression("5"), bench.bind("name"), bench.undo(), bench.redo()]
        with bench.block():
            told.append(bench.keep())
        self.assertEqual(told, [None] * 9)

    def test_arguments_are_not_changed(self):
        program = Program("part f fun x x\nrun plus call f 1 call f 2")
        run = ended(program, "need", 3)
        before = (run.program, run.way, run.places, run.next, run.sight(), run.pile())
        exchanged_run(run, "f", "part f fun y y")
        self.assertEqual((run.program, run.way, run.places, run.next, run.sight(), run.pile()), before)
        book = Book("part f fun x x", "need")
        book.learn(program, 99)
        told = book.pieces
        call = outer_calls(program, "need", 99, "f")[0][0]
        for function in (size, times, needs, least):
            function(book, "f", call)
        joined(book, Book("part f fun x x", "need")).drop("f", call)
        least(book, "f", call).drop("f", call)
        self.assertEqual(book.pieces, told)
        its = asked(program, "value", 9)
        its.book().drop("f", call)
        self.assertEqual(len(its.book()), 2)


if __name__ == "__main__":
    unittest.main()
