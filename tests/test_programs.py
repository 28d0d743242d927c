"""Point 4: which texts are programs, and the number of the line for those that are none."""

import unittest

from helpers import Refusals, any_values
from uselots.errors import BadProgram, NoProgram
from uselots.texts import Program, joined_text, parts_text

WORDS = "fun call let plus less pick pair first second part run".split()


def parts(many, first=0):
    return "".join(f"part p{number} fun x x\n" for number in range(first, first + many))


def nested(deep):
    """An E so many deep."""
    return "first " * (deep - 1) + "1"


def wide(words):
    """An E of so many words, as flat as it can be."""
    if words < 3:
        return "first 1" if words == 2 else "1"
    left = (words - 1) // 2
    return f"plus {wide(left)} {wide(words - 1 - left)}"


class Accepted(unittest.TestCase):
    def test_each_kind_of_e(self):
        for told in ("1", "-1", "0", "99", "-99", "fun x x", "call f 1", "let x 1 x", "plus 1 2", "less 1 2",
                     "pick 0 1 2", "pair 1 2", "first 1", "second 1", "f", "plus f f"):
            text = f"part f fun y y\nrun {told}"
            self.assertEqual(Program(text).text, text)

    def test_twelve_parts(self):
        self.assertEqual(len(Program(parts(12) + "run 1").parts), 12)

    def test_no_parts(self):
        self.assertEqual(Program("run 1").parts, ())

    def test_120_words(self):
        for words in range(1, 121):
            self.assertEqual(len(wide(words).split(" ")), words)
        for words in range(1, 120):
            Program("run " + wide(words))
        Program("part f fun x " + wide(116) + "\nrun 1")

    def test_30_deep(self):
        Program("run " + nested(30))
        Program("part f fun x " + nested(29) + "\nrun 1")
        Program("run plus " + nested(29) + " " + nested(29))
        Program("run pick 1 " + nested(3) + " let x 1 " + nested(28))

    def test_names_of_eight_signs(self):
        Program("part abcdefgh fun a2345678 a2345678\nrun abcdefgh")
        Program("part z fun zz zz\nrun call z z")

    def test_a_part_named_ahead_of_its_line(self):
        self.assertEqual(Program("part f fun x g\npart g fun x f\nrun f").parts, ("f", "g"))

    def test_names_bound_again(self):
        Program("part f fun x fun x x\npart g fun x x\nrun let x 1 let x x x")


class Refused(Refusals, unittest.TestCase):
    def assert_bad(self, *rows):
        for number, text in rows:
            with self.subTest(text):
                self.assert_refused_equal(BadProgram, number, Program, text)

    def test_no_string(self):
        for value in any_values():
            if type(value) is not str:
                self.assert_refused_equal(BadProgram, 0, Program, value)

    def test_a_text_without_signs(self):
        self.assert_bad((1, ""), (1, "\n"), (1, "\nrun 1"))

    def test_the_line_run_lacks(self):
        self.assert_bad((2, "part f fun x x"), (3, "part f fun x x\npart g fun x x"), (13, parts(12)[:-1]))

    def test_an_empty_line_is_a_line(self):
        self.assert_bad((2, "part f fun x x\n"), (2, "run 1\n"), (2, "part f fun x x\n\nrun 1"))

    def test_lines_behind_run(self):
        self.assert_bad((2, "run 1\nrun 1"), (2, "run 1\npart f fun x x"), (2, "run f\npart f fun x x\nrun 1"),
                        (3, "part f fun x x\nrun 1\npart g fun x x"))

    def test_thirteen_parts(self):
        self.assert_bad((13, parts(13) + "run 1"), (13, parts(13)[:-1]), (13, parts(14) + "run 1"))

    def test_121_words(self):
        self.assert_bad((1, "run " + wide(120)), (2, "part f fun x x\nrun " + wide(120)), (1, "run first " + wide(119)),
                        (1, "part f fun x " + wide(117) + "\nrun 1"), (1, "run " + wide(119) + " 1"))

    def test_31_deep(self):
        self.assert_bad((1, "run " + nested(31)), (1, "part f fun x " + nested(30) + "\nrun 1"),
                        (1, "run plus 1 " + nested(30)), (1, "run plus " + nested(30) + " 1"))

    def test_names(self):
        for name in ("abcdefghi", "a23456789", "1a", "A", "aB", "a_b", "_a", "a-b", "", "f'", "a.", "\u00e9"):
            self.assert_bad((1, f"part {name} fun x 1\nrun 1"), (1, f"part f fun {name} 1\nrun 1"),
                            (1, f"run let {name} 1 2"), (1, f"run fun {name} 1"), (1, f"run {name}"))

    def test_words_as_names(self):
        for word in WORDS:
            self.assert_bad((1, f"part {word} fun x 1\nrun 1"), (1, f"part f fun {word} 1\nrun 1"),
                            (1, f"run let {word} 1 2"), (1, f"run fun {word} 1"), (1, f"run {word}"),
                            (1, f"run plus 1 {word}"), (1, f"run call {word} 1"))

    def test_part_and_run_within_a_line(self):
        self.assert_bad((1, "run part"), (1, "run run"), (1, "run run 1"), (1, "run plus part 1"),
                        (1, "part f fun x run\nrun 1"), (1, "part f fun x part\nrun 1"), (1, "part f run 1"))

    def test_a_word_more(self):
        self.assert_bad((1, "run 1 1"), (1, "run x x"), (1, "run plus 1 2 3"), (1, "run fun x x x"),
                        (1, "part f fun x x x\nrun 1"), (1, "part part f fun x x\nrun 1"), (1, "run let x 1 x x"))

    def test_a_word_less(self):
        self.assert_bad((1, "run"), (1, "run plus 1"), (1, "run plus"), (1, "run fun"), (1, "run fun x"),
                        (1, "run let x 1"), (1, "run let x"), (1, "run let"), (1, "run pick 1 2"), (1, "run pair 1"),
                        (1, "run call 1"), (1, "run first"), (1, "part\nrun 1"), (1, "part f\nrun 1"),
                        (1, "part f fun\nrun 1"), (1, "part f fun x\nrun 1"), (1, "part f x\nrun 1"))

    def test_a_part_is_a_fun(self):
        self.assert_bad((1, "part f 1\nrun 1"), (1, "part f plus 1 2\nrun 1"), (1, "part f let x 1 x\nrun 1"))

    def test_blanks(self):
        self.assert_bad((1, " run 1"), (1, "run  1"), (1, "run 1 "), (1, " "), (1, "run "), (1, "run\t1"),
                        (1, "part f  fun x x\nrun 1"), (1, "part f fun x x \nrun 1"), (2, "part f fun x x\n run 1"))

    def test_other_first_words(self):
        self.assert_bad((1, "1"), (1, "plus 1 2"), (1, "Run 1"), (1, "fun x x"), (1, "parts f fun x x\nrun 1"))

    def test_integers(self):
        for word in ("100", "-100", "+1", "01", "-0", "1_0", "1.0", "0x1", "--1", "-", "1-", "00", "-01", "1e1", "999"):
            self.assert_bad((1, f"run {word}"), (1, f"run plus 1 {word}"), (2, f"part f fun x x\nrun {word}"))

    def test_names_that_two_parts_have(self):
        self.assert_bad((2, "part f fun x x\npart f fun x x\nrun 1"), (3, parts(2) + "part p0 fun y y\nrun 1"))

    def test_names_that_a_part_and_something_bound_have(self):
        self.assert_bad((2, "part f fun x x\npart g fun f f\nrun 1"), (2, "part f fun x x\npart x fun y y\nrun 1"),
                        (2, "part f fun x x\nrun let f 1 f"), (2, "part f fun x x\nrun fun f 1"),
                        (3, "part f fun x let y 1 y\npart g fun x x\npart y fun z z\nrun 1"),
                        (3, "part f fun x x\npart g fun z z\nrun fun g 1"))

    def test_a_line_that_does_so_by_itself(self):
        self.assert_bad((1, "part f fun f f\nrun 1"), (1, "part f fun x let f 1 x\nrun 1"),
                        (2, "part g fun x x\npart f fun x fun f x\nrun 1"))

    def test_names_of_nobody(self):
        self.assert_bad((1, "run x"), (1, "run plus x 1"), (1, "run let x x 1"), (1, "run call fun x x x"),
                        (1, "part f fun x y\nrun f"), (2, "part f fun x x\nrun x"), (1, "part f fun x a\nrun b"),
                        (2, "part f fun x x\npart g fun y x\nrun z"), (1, "run plus let x 1 x x"))

    def test_names_of_nobody_beside_other_faults(self):
        self.assert_bad((2, "part f fun x y\nrun"), (3, "part f fun x x\nrun y\nrun 1"), (2, "part f fun x y"),
                        (1, "run plus y"), (1, "run y y"), (2, "run y\n"), (2, "part f fun x y\npart f fun x x\nrun y"),
                        (1, "part f fun f y\nrun 1"), (13, parts(12) + "part q fun x nobody\nrun 1"),
                        (3, "part f fun x y\npart g fun x 1\nrun 100"))

    def test_the_first_line_counts(self):
        self.assert_bad((1, "part f fun x\npart f fun x\nrun"), (2, "run 1\nnothing\nrun 1"), (1, "x\nrun 1\nrun 1"))


class Joined(Refusals, unittest.TestCase):
    def test_parts_and_back(self):
        for text in ("", "part f fun x x", "part f fun x g\npart g fun x f"):
            program = joined_text(text, "plus 1 2")
            self.assertEqual(program, Program((text + "\n" if text else "") + "run plus 1 2"))
            self.assertEqual(parts_text(program), text)

    def test_by_names(self):
        self.assertEqual(parts_text(program=joined_text(parts="part f fun x x", expression="1")), "part f fun x x")

    def test_no_string(self):
        for value in any_values():
            if type(value) is not str:
                self.assert_refused_equal(BadProgram, 0, joined_text, value, "1")
                self.assert_refused_equal(BadProgram, 0, joined_text, "", value)
                self.assert_refused_equal(BadProgram, 0, joined_text, "nothing", value)

    def test_refused(self):
        for number, told, expression in ((1, "", ""), (1, "", "x"), (2, "part f fun x x", "x"), (2, "run 1", "1"),
                                         (2, "part f fun x x\n", "1"), (2, "", "1\nrun 1"), (1, "part f", "1"),
                                         (1, "\n", "1"), (2, "part f fun x x", "fun f f"), (1, "", "run 1")):
            self.assert_refused_equal(BadProgram, number, joined_text, told, expression)

    def test_parts_text_wants_a_program(self):
        for value in any_values():
            if not isinstance(value, Program):
                self.assert_refused(NoProgram, value, parts_text, value)


if __name__ == "__main__":
    unittest.main()
