"""Point 5: runs."""

import unittest

from helpers import Refusals, any_values
from uselots.errors import BadMany, BadMost, BadWay, Ended, NoProgram
from uselots.runs import Run, ended
from uselots.texts import Program, joined_text

WAYS = ("name", "need", "value")
DOUBLE = "part d fun x plus x x\n"


def end(expression, way="need", parts="", most=1000):
    return ended(joined_text(parts, expression), way, most).end


def ends(expression, parts="", most=1000):
    """The END by each way, if it is the same by all three."""
    told = [end(expression, way, parts, most) for way in WAYS]
    return told[0] if told == [told[0]] * 3 else told


def lengths(expression, parts="", most=1000):
    return [len(ended(joined_text(parts, expression), way, most)) for way in WAYS]


class Values(unittest.TestCase):
    """The rows of the table of Es."""

    def test_integers(self):
        for number in (0, 1, -1, 99, -99):
            self.assertEqual(ends(str(number)), ("number", number))

    def test_funs_and_pairs(self):
        self.assertEqual(ends("fun x x"), ("function", ("run", 1)))
        self.assertEqual(ends("let y 1 fun x y"), ("function", ("run", 4)))
        self.assertEqual(ends("pair 1 2"), ("pair", ("run", 1)))
        self.assertEqual(ends("second pair 1 pair 2 3"), ("pair", ("run", 4)))

    def test_a_parts_name(self):
        self.assertEqual(ends("d", "part d fun x x"), ("function", ("d", 2)))
        self.assertEqual(ends("let y d y", "part d fun x x"), ("function", ("d", 2)))
        self.assertEqual(ends("call d 1", "part d fun x fun y x"), ("function", ("d", 4)))

    def test_call(self):
        self.assertEqual(ends("call fun x plus x 1 5"), ("number", 6))
        self.assertEqual(ends("call call fun x fun y less x y 1 2"), ("number", 1))
        self.assertEqual(ends("call fun x x fun y y"), ("function", ("run", 5)))

    def test_a_function_has_the_names_around_it(self):
        self.assertEqual(ends("let x 1 let f fun y plus x y let x 10 call f x"), ("number", 11))
        self.assertEqual(ends("call call fun x fun x x 1 2"), ("number", 2))

    def test_a_parts_function_has_an_empty_room(self):
        self.assertEqual(ends("let y 5 call d y", "part d fun x call e 2\npart e fun z z"), ("number", 2))

    def test_let(self):
        self.assertEqual(ends("let x 3 plus x x"), ("number", 6))
        self.assertEqual(ends("let x 1 let x plus x 1 let x plus x x x"), ("number", 4))

    def test_plus_and_less(self):
        self.assertEqual([ends(f"plus {one} {other}") for one, other in ((1, 2), (-5, 3), (99, 99), (0, 0))],
                         [("number", 3), ("number", -2), ("number", 198), ("number", 0)])
        pairs = ((1, 2), (2, 1), (2, 2), (-3, -2), (-2, -3))
        self.assertEqual([ends(f"less {one} {other}")[1] for one, other in pairs], [1, 0, 0, 1, 0])

    def test_sums_at_and_beyond_the_bounds(self):
        for sign in ("", "-"):
            most = f"plus {'call d ' * 6}{sign}99 plus {'call d ' * 5}{sign}99 {'call d ' * 2}{sign}99"
            for added, told in (((), 9900), ((98,), 9998), ((99,), 9999), ((99, 1), 9999), ((99, 99), 9999),
                                ((99, -1), 9998), ((99, 1, -1), 9998), ((99, 50, -1, -1, 1), 9998)):
                expression = most
                for number in added:
                    expression = f"plus {expression} {-number if sign else number}"
                self.assertEqual(ends(expression, DOUBLE[:-1]), ("number", -told if sign else told))
            twice = f"call d {'call d ' * 6}{sign}99"
            self.assertEqual(ends(twice, DOUBLE[:-1]), ("number", -9999 if sign else 9999))
            other = f"{'call d ' * 7}{'' if sign else '-'}99"
            self.assertEqual(ends(f"plus {twice} {other}", DOUBLE[:-1], 5000), ("number", 0))

    def test_pick(self):
        self.assertEqual([ends(f"pick {number} 10 20")[1] for number in (0, 1, -1, 99)], [10, 20, 20, 20])
        self.assertEqual(ends("pick 0 fun x x call 1 1"), ("function", ("run", 3)))
        self.assertEqual(ends("pick 2 call 1 1 5"), ("number", 5))

    def test_first_and_second(self):
        self.assertEqual([ends("first pair 1 2"), ends("second pair 1 2")], [("number", 1), ("number", 2)])
        self.assertEqual(ends("let p pair 1 pair 2 3 plus first p plus first second p second second p"), ("number", 6))

    def test_functions_handed_on(self):
        self.assertEqual(ends("call call fun f fun x call f call f x fun y plus y 2 1"), ("number", 5))
        self.assertEqual(ends("let f d let g f plus call g 2 call f 3", DOUBLE[:-1]), ("number", 10))
        self.assertEqual(ends("call first pair d 1 4", DOUBLE[:-1]), ("number", 8))

    def test_a_part_that_calls_itself(self):
        count = "part sum fun n pick n 0 plus n call sum plus n -1"
        self.assertEqual(ends("call sum 5", count), ("number", 15))
        even = "part even fun n pick n 1 call odd plus n -1\npart odd fun n pick n 0 call even plus n -1"
        self.assertEqual([ends(f"call even {number}", even)[1] for number in (0, 1, 4, 5)], [1, 0, 1, 0])


class Ways(unittest.TestCase):
    """How what is bound is worked out: name, need, value, one behind the other."""

    def test_nobody_looks(self):
        self.assertEqual([lengths("let x plus 1 2 5"), ends("let x plus 1 2 5")], [[2, 2, 5], ("number", 5)])
        self.assertEqual([lengths("call fun x 5 plus 1 2"), ends("call fun x 5 plus 1 2")], [[3, 3, 6], ("number", 5)])
        self.assertEqual(lengths("pair plus 1 2 plus 3 4"), [1, 1, 7])
        self.assertEqual(lengths("first pair 1 plus 3 4"), [3, 3, 6])

    def test_one_look(self):
        self.assertEqual(lengths("let x plus 1 2 x"), [5, 5, 5])

    def test_several_looks(self):
        self.assertEqual(lengths("let x plus 1 2 plus x plus x x"), [15, 9, 9])
        self.assertEqual(lengths("call fun x plus x x plus 1 2"), [11, 8, 8])

    def test_halves_looked_at_by_several_names(self):
        self.assertEqual(lengths("let p pair plus 1 2 4 let q p plus first p first q"), [16, 12, 13])
        self.assertEqual(ends("let p pair plus 1 2 4 let q p plus first p first q"), ("number", 6))

    def test_places_by_name(self):
        run = ended(Program("run let x plus 1 2 plus x x"), "name", 99)
        self.assertEqual([at for _, at in run.places], [1, 6, 7, 3, 4, 5, 8, 3, 4, 5])
        self.assertEqual(run.unders, (-1, 0, 1, 0, 3, 3, 1, 0, 7, 7))
        self.assertEqual(run.begins, (-1, 0, 1, 2, 3, 3, 1, 6, 7, 7))

    def test_places_by_need(self):
        run = ended(Program("run let x plus 1 2 plus x x"), "need", 99)
        self.assertEqual([at for _, at in run.places], [1, 6, 7, 3, 4, 5, 8])
        self.assertEqual(run.unders, (-1, 0, 1, 0, 3, 3, 1))
        self.assertEqual(run.begins, (-1, 0, 1, 2, 3, 3, 1))

    def test_places_by_value(self):
        run = ended(Program("run let x plus 1 2 plus x x"), "value", 99)
        self.assertEqual([at for _, at in run.places], [1, 3, 4, 5, 6, 7, 8])
        self.assertEqual(run.unders, (-1, 0, 1, 1, 0, 4, 4))
        self.assertEqual(run.begins, (-1, 0, 1, 1, 0, 4, 4))

    def test_a_call_by_value(self):
        run = ended(Program("run call let f fun x x f plus 1 2"), "value", 99)
        self.assertEqual([at for _, at in run.places], [1, 2, 4, 7, 8, 9, 10, 6])
        self.assertEqual(run.unders, (-1, 0, 1, 1, 0, 4, 4, 2))
        self.assertEqual(run.begins, (-1, 0, 1, 1, 0, 4, 4, 0))

    def test_a_pair_by_value(self):
        run = ended(Program("run second pair plus 1 2 fun x x"), "value", 99)
        self.assertEqual(run.places, tuple(("run", at) for at in (1, 2, 3, 4, 5, 6)))
        self.assertEqual(run.end, ("function", ("run", 6)))
        self.assertEqual([run.unders, run.begins], [(-1, 0, 1, 2, 2, 1), (-1, 0, 1, 2, 2, 1)])

    def test_a_pair_by_need(self):
        run = ended(Program("run let p pair 1 plus 2 3 plus second p second p"), "need", 99)
        self.assertEqual([at for _, at in run.places], [1, 8, 9, 10, 3, 5, 6, 7, 11, 12])
        self.assertEqual(run.unders, (-1, 0, 1, 2, 0, 4, 5, 5, 1, 8))
        self.assertEqual(run.begins, (-1, 0, 1, 2, 3, 2, 5, 5, 1, 8))

    def test_a_body_stands_under_who_made_its_function(self):
        run = ended(Program("part d fun x x\nrun let f d plus call f 1 call f 2"), "need", 99)
        bodies = [number for number, place in enumerate(run.places) if place == ("d", 4)]
        self.assertEqual([run.unders[number] for number in bodies], [run.places.index(("run", 3))] * 2)
        self.assertEqual([run.places[run.begins[number]] for number in bodies], [("run", 5), ("run", 8)])

    def test_mixtures(self):
        program = Program("run let x plus 1 2 let y plus 3 4 plus x plus x plus y y")
        first, second = program.bindings
        told = {}
        for one in WAYS:
            for other in WAYS:
                changes = tuple(row for row in ((first, one), (second, other)) if row[1] != "need")
                run = ended(program, ("need", changes) if changes else "need", 99)
                told[one, other] = len(run)
                self.assertEqual(run.end, ("number", 20))
        self.assertEqual(told, {(one, other): 15 + 3 * (one == "name") + 3 * (other == "name")
                                for one in WAYS for other in WAYS})

    def test_a_mixture_goes_by_its_places(self):
        program = Program("run call fun x let y x 5 call fun z z 1")
        for way, many in (("need", 4), ("value", 9), (("need", ((("run", 1), "value"),)), 8),
                          (("value", ((("run", 1), "need"),)), 9), (("value", ((("run", 4), "name"),)), 8)):
            self.assertEqual((len(ended(program, way, 99)), ended(program, way, 99).end), (many, ("number", 5)), way)

    def test_halves_bind_as_their_pair(self):
        program = Program("run let p pair plus 1 2 0 plus first p first p")
        for way, many in ((("need", ((("run", 3), "name"),)), 13), (("name", ((("run", 3), "need"),)), 14),
                          (("name", ((("run", 1), "need"),)), 13), ("need", 10), ("name", 14),
                          (("value", ((("run", 3), "need"),)), 10), ("value", 11)):
            self.assertEqual(len(ended(program, way, 99)), many, way)

    def test_a_lost_argument(self):
        parts = "part on fun x call on x"
        self.assertEqual(ends("call fun x 3 call on 0", parts, 60), [("number", 3), ("number", 3), None])
        self.assertEqual(ends("second pair call on 0 4", parts, 60), [("number", 4), ("number", 4), None])


class Stuck(unittest.TestCase):
    def test_a_call_of_no_function(self):
        for told in ("1", "pair 1 2", "plus 1 2"):
            self.assertEqual(ends(f"call {told} call 1 1"), ("stuck", ("run", 1)))
        self.assertEqual(lengths("call 1 plus 1 2"), [2, 2, 2])

    def test_first_and_second_of_no_pair(self):
        for word in ("first", "second"):
            for told in ("1", "fun x x", "d"):
                self.assertEqual(ends(f"plus {word} {told} 1", "part d fun x x"), ("stuck", ("run", 2)))

    def test_sums_of_no_numbers(self):
        for word in ("plus", "less"):
            for told in ("fun x x", "pair 1 2", "d"):
                self.assertEqual(ends(f"{word} {told} 1", "part d fun x x"), ("stuck", ("run", 1)))
                self.assertEqual(ends(f"{word} 1 {told}", "part d fun x x"), ("stuck", ("run", 1)))

    def test_as_soon_as_it_came(self):
        self.assertEqual([lengths("plus fun x x plus 1 2"), lengths("less pair 1 2 7")[:2]], [[2] * 3, [2] * 2])
        self.assertEqual(lengths("plus plus 1 2 fun x x"), [5] * 3)
        self.assertEqual(lengths("pick fun x x 1 2"), [2] * 3)

    def test_pick_of_no_number(self):
        for told in ("fun x x", "pair 1 2", "d"):
            self.assertEqual(ends(f"pick {told} 1 2", "part d fun x x"), ("stuck", ("run", 1)))

    def test_pick_hands_on_whatever_it_picks(self):
        self.assertEqual(ends("plus 1 pick 0 fun x x 2"), ("stuck", ("run", 1)))

    def test_stuck_in_a_part(self):
        run = ended(Program("part d fun x plus x 1\nrun pair 1 call d fun y y"), "value", 99)
        self.assertEqual([run.end, run.next, run.sight(), run.pile()], [("stuck", ("d", 4)), None, (), ()])

    def test_stuck_ahead_of_nothing_else(self):
        self.assertEqual(end("let x call 1 2 3", "need"), ("number", 3))
        self.assertEqual(end("let x call 1 2 3", "value"), ("stuck", ("run", 3)))

    def test_no_end(self):
        parts = "part on fun x call on x"
        self.assertEqual(ends("call on 0", parts), None)
        self.assertEqual(ends("call fun x call x x fun x call x x"), None)
        self.assertEqual(lengths("call on 0", parts, 500), [500] * 3)


class AtEachMoment(unittest.TestCase):
    def test_by_need(self):
        run = Run(Program("run let x plus 1 2 call fun y plus y x pair x 3"), "need")
        told = []
        while run.next is not None:
            told.append((run.next[1], run.sight(), run.pile()))
            run.step()
        x, y = ("x", ("waits", ("run", 3))), ("y", ("waits", ("run", 12)))
        self.assertEqual(told, [(1, (), ()), (6, (x,), ()), (7, (x,), (1,)), (9, (y, x), ()), (10, (y, x), (3,)),
                                (12, (x,), (4, 3))])
        self.assertEqual(run.end, ("stuck", ("run", 9)))

    def test_by_value(self):
        run = Run(Program("run let x plus 1 2 call fun y plus y x pair x 3"), "value")
        told = []
        while run.next is not None:
            told.append((run.next[1], run.sight(), run.pile()))
            run.step()
        x, y = ("x", ("number", 3)), ("y", ("pair", ("run", 12)))
        self.assertEqual(told, [(1, (), ()), (3, (), (0,)), (4, (), (1, 0)), (5, (), (1, 0)), (6, (x,), ()),
                                (7, (x,), (4,)), (12, (x,), (4,)), (13, (x,), (6, 4)), (14, (x,), (6, 4)),
                                (9, (y, x), ()), (10, (y, x), (9,))])

    def test_by_name_nobody_waits_for_a_look(self):
        run = Run(Program("run let x plus 1 2 plus x 1"), "name")
        run.go(3)
        self.assertEqual([run.next, run.sight(), run.pile()], [("run", 3), (), (1,)])
        run = Run(Program("run let x plus 1 2 plus x 1"), "need")
        run.go(3)
        self.assertEqual([run.next, run.sight(), run.pile()], [("run", 3), (), (2, 1)])

    def test_states(self):
        program = Program("part d fun x x\nrun let n 4 let f d let g fun z z let p pair n f let w p plus n 1")
        run = Run(program, "value")
        while run.next != ("run", 20):
            run.step()
        self.assertEqual(run.sight(), (("w", ("pair", ("run", 14))), ("p", ("pair", ("run", 14))),
                                       ("g", ("function", ("run", 9))), ("f", ("function", ("d", 2))),
                                       ("n", ("number", 4))))
        run = Run(program, "need")
        run.go(6)
        self.assertEqual([run.next, run.sight()], [("run", 21), tuple(
            (name, ("waits", ("run", at))) for name, at in (("w", 19), ("p", 14), ("g", 9), ("f", 6), ("n", 3)))])

    def test_by_need_a_name_has_its_value_behind_the_first_look(self):
        run = Run(Program("run let x plus 1 2 plus x x"), "need")
        run.go(6)
        self.assertEqual([run.next, run.sight()], [("run", 8), (("x", ("number", 3)),)])
        twin = Run(Program("run let x plus 1 2 plus x x"), "name")
        twin.go(6)
        self.assertEqual([twin.next, twin.sight()], [("run", 8), (("x", ("waits", ("run", 3))),)])

    def test_names_bound_twice(self):
        run = Run(Program("run let x 1 let y 2 let x 3 plus x y"), "need")
        run.go(3)
        self.assertEqual(run.sight(), (("x", ("waits", ("run", 9))), ("y", ("waits", ("run", 6)))))

    def test_halves_on_the_pile(self):
        run = Run(Program("run let p pair plus 1 2 4 plus first p first p"), "need")
        run.go(6)
        self.assertEqual([run.places[-1], run.next, run.pile()], [("run", 4), ("run", 5), (5, 2, 1)])

    def test_a_pair_by_value_waits(self):
        run = Run(Program("run pair plus 1 2 4"), "value")
        piles = []
        while run.next is not None:
            piles.append(run.pile())
            run.step()
        self.assertEqual([piles, run.end, run.pile()], [[(), (0,), (1, 0), (1, 0), (0,)], ("pair", ("run", 1)), ()])

    def test_piles_do_not_grow_by_what_nobody_waits_for(self):
        run = ended(Program("part on fun x let y x pick 0 call on y 1\nrun call on 0"), "name", 5000)
        self.assertLessEqual(len(run.pile()), 2)

    def test_behind_the_end(self):
        for way in WAYS:
            run = ended(Program("run let x 1 plus x x"), way, 99)
            self.assertEqual([run.end, run.next, run.sight(), run.pile(), run.go(5)], [("number", 2), None, (), (), 0])


class Deeds(Refusals, unittest.TestCase):
    def setUp(self):
        self.program = Program(DOUBLE + "run call d call d plus 1 2")

    def told(self, run):
        return (run.program, run.way, run.end, run.next, run.places, run.unders, run.begins, len(run), run.sight(),
                run.pile())

    def test_at_first(self):
        run = Run(self.program, "need")
        self.assertEqual(self.told(run), (self.program, "need", None, ("run", 1), (), (), (), 0, (), ()))

    def test_step(self):
        run = Run(self.program, "need")
        places = [run.step(), run.step(), run.step()]
        self.assertEqual([places, list(run.places), len(run)], [[("run", 1), ("run", 2), ("d", 4)]] * 2 + [3])

    def test_step_behind_the_end(self):
        for expression in ("1", "call 1 1"):
            run = ended(Program("run " + expression), "need", 99)
            told = self.told(run)
            self.assert_refused_equal(Ended, run.end, run.step)
            self.assertEqual(self.told(run), told)

    def test_go(self):
        whole = len(ended(self.program, "need", 1000))
        run = Run(self.program, "need")
        self.assertEqual([run.go(1), run.go(most=4), len(run), run.go(100), len(run), run.go(100)],
                         [1, 4, 5, whole - 5, whole, 0])
        run = Run(self.program, "need")
        self.assertEqual([run.go(whole), run.end], [whole, ("number", 12)])

    def test_go_refused(self):
        run = Run(self.program, "need")
        run.go(3)
        told = self.told(run)
        for value in any_values() + [0, -1, 100001, 100002, 10 ** 8, True, False, "1", None, (1,)]:
            if type(value) is not int or not 1 <= value <= 100000:
                self.assert_refused(BadMost, value, run.go, value)
        self.assertEqual(self.told(run), told)
        self.assertEqual(run.go(100000), len(run) - 3)

    def test_back(self):
        for way in WAYS:
            run = ended(self.program, way, 1000)
            whole = self.told(run)
            many = len(run)
            moments = {}
            for number in range(many - 1, -1, -1):
                run.back(1)
                self.assertEqual(len(run), number)
                moments[number] = self.told(run)
            for number in range(many):
                self.assertEqual(self.told(run), moments[number])
                run.step()
            self.assertEqual(self.told(run), whole)
            for number in range(many):
                run.back(many=many - number)
                self.assertEqual(self.told(run), moments[number])
                run.go(1000)
                self.assertEqual(self.told(run), whole)

    def test_back_from_where_it_is_stuck(self):
        run = ended(Program("run let x 1 plus x fun y y"), "need", 99)
        self.assertEqual(run.end, ("stuck", ("run", 4)))
        run.back(1)
        self.assertEqual([run.end, run.next, run.sight(), run.pile()],
                         [None, ("run", 6), (("x", ("number", 1)),), (1,)])
        run.back(2)
        self.assertEqual([run.next, run.sight()], [("run", 5), (("x", ("waits", ("run", 3))),)])

    def test_back_refused(self):
        run = Run(self.program, "need")
        self.assert_refused_equal(BadMany, 1, run.back, 1)
        run.go(3)
        told = self.told(run)
        for value in any_values() + [0, 4, -1, True, "1", None]:
            if type(value) is not int or not 1 <= value <= 3:
                self.assert_refused(BadMany, value, run.back, value)
        self.assertEqual(self.told(run), told)

    def test_copy(self):
        run = Run(self.program, "need")
        run.go(8)
        twin = run.copy()
        self.assertTrue(twin == run and twin is not run)
        twin.go(3)
        self.assertEqual([len(run), len(twin)], [8, 11])
        run.back(8)
        self.assertEqual([len(run), len(twin), twin.go(100) > 0, twin.end], [0, 11, True, ("number", 12)])
        self.assertEqual([run.go(100) > 0, run.end, self.told(run)], [True, ("number", 12), self.told(twin)])

    def test_copies_can_be_taken_back(self):
        for way in WAYS:
            run = ended(self.program, way, 7)
            twin = run.copy()
            twin.back(3)
            self.assertEqual(self.told(twin), self.told(ended(self.program, way, 4)))
            twin.go(1000)
            twin.back(len(twin) - 2)
            self.assertEqual(self.told(twin), self.told(ended(self.program, way, 2)))
            self.assertEqual(self.told(run), self.told(ended(self.program, way, 7)))

    def test_equality(self):
        run = ended(self.program, "need", 5)
        self.assertTrue(run == ended(Program(self.program.text), "need", 5))
        self.assertFalse(run != ended(self.program, "need", 5))
        self.assertFalse(run == ended(self.program, "need", 6))
        self.assertFalse(run == ended(self.program, "name", 5))
        self.assertFalse(run == ended(self.program, ("need", ((("run", 1), "name"),)), 5))
        self.assertFalse(run == ended(Program("run call 1 1"), "need", 5))
        self.assertFalse(run == ended(Program(DOUBLE + "run call d call d plus 1 3"), "need", 5))
        self.assertFalse(run == ended(Program("run call fun x plus x x call fun x plus x x plus 1 2"), "need", 5))
        going = ended(self.program, "need", 7)
        going.back(2)
        self.assertTrue(run == going)
        for value in any_values() + [run.program, 5, run.places]:
            self.assertFalse(run == value)
            self.assertTrue(value != run)

    def test_no_program_and_bad_way(self):
        for value in any_values():
            if not isinstance(value, Program):
                self.assert_refused(NoProgram, value, Run, value, "need")
                self.assert_refused(NoProgram, value, Run, value, "none")
                self.assert_refused(NoProgram, value, ended, value, "none", 0)
            if value != "need":
                self.assert_refused(BadWay, value, Run, self.program, value)
                self.assert_refused(BadWay, value, ended, self.program, value, 0)

    def test_ended(self):
        run = ended(program=self.program, way="value", most=4)
        self.assertTrue(type(run) is Run and run.program is self.program)
        self.assertEqual([len(run), run.way, len(ended(self.program, "value", 100000))], [4, "value", 13])
        for value in (0, 100001, True, "1", None, -3, (1,), [1]):
            self.assert_refused(BadMost, value, ended, self.program, "need", value)
        self.assertEqual(len(Run(program=self.program, way="need")), 0)


class Long(unittest.TestCase):
    def test_100000_steps(self):
        program = Program("part on fun x call on plus x 1\nrun call on 0")
        for way in WAYS:
            run = Run(program, way)
            self.assertEqual([run.go(100000), len(run), run.end, len(run.places)], [100000, 100000, None, 100000])
            self.assertEqual([run.go(10), len(run)], [10, 100010])
            run.back(99990)
            self.assertEqual([len(run), run.go(5)], [20, 5])

    def test_deep(self):
        program = Program("part far fun n pick n 0 plus 1 call far plus n -1\n" + DOUBLE
                          + "run call far " + "call d " * 6 + "90")
        run = ended(program, "need", 100000)
        self.assertEqual(run.end, ("number", 5760))
        many = len(run)
        run.back(1)
        self.assertEqual(len(run.pile()), 5760)
        run.back(many - 1)
        self.assertEqual([run.go(100000), run.end], [many, ("number", 5760)])

    def test_deep_piles(self):
        run = ended(Program("part on fun x plus 1 call on x\nrun call on 0"), "value", 100000)
        pile = run.pile()
        self.assertGreater(len(pile), 15000)
        self.assertEqual(pile, tuple(sorted(pile, reverse=True)))
        twin = run.copy()
        run.back(100000)
        self.assertEqual([run.pile(), twin.pile() == pile, twin.go(5)], [(), True, 5])

    def test_long_chains_of_looks(self):
        program = Program("part far fun n fun x pick n x call call far plus n -1 plus x 1\n" + DOUBLE
                          + "run call call far " + "call d " * 5 + "90 0")
        self.assertEqual(ended(program, "need", 100000).end, ("number", 2880))


if __name__ == "__main__":
    unittest.main()
