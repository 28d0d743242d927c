"""Point 6: texts of tables, and back."""

import unittest

from helpers import Refusals, any_values
from tables import Lot
from uselots.errors import BadText
from uselots.uses import uses_in, uses_text

TABLE = (
    ("number", -7), ("number", 5), ("function", ()), ("pair", (), ()), ("function", ((((), 0), 2),)),
    ("pair", ((0, 1),), ()), ("pair", (), ((0, 1), (1, 12))),
    ("function", ((((), 0), 1), ((((0, 2), (1, 3)), 4), 10 ** 20))), ("number", 9999), ("number", -9999))
LINES = [
    "0 number -7", "1 number 5", "2 function", "3 pair /", "4 function > 0 : 2", "5 pair 0*1 /", "6 pair / 0*1 1*12",
    "7 function > 0 : 1 ; 0*2 1*3 > 4 : 100000000000000000000", "8 number 9999", "9 number -9999"]

# What cannot be the line of entry 2 behind two numbers, by what is wrong with it.
WRONG = {
    "no words": [
        "", " ", "2", "2 ", "number 5", "number",
    ],
    "numbers of lines": [
        "1 number 5", "3 number 5", "0 number 5", "02 number 5", "+2 number 5", "-2 number 5", "2. number 5",
        "two number 5", "2_ number 5",
    ],
    "kinds": [
        "2 Number 5", "2 numbers 5", "2 5", "2 functions", "2 pairs /", "2 5 number",
    ],
    "numbers": [
        "2 number", "2 number 10000", "2 number -10000", "2 number 05", "2 number +5", "2 number -0", "2 number x",
        "2 number 5 5", "2 number 1_0", "2 number --5", "2 number 5.0", "2 number 5*1", "2 number -",
    ],
    "blanks": [
        "2 number  5", " 2 number 5", "2 number 5 ", "2  number 5", "2\tnumber 5", "2 function ", "2 pair  /",
        "2 pair / ", "2 pair /  0*1", "2 function  > 0 : 1", "2 function > 0 : 1 ", "2 function >  0 : 1",
    ],
    "pairs": [
        "2 pair", "2 pair 0*1", "2 pair 0*1 1*1", "2 pair / /", "2 pair 0*1 / 1*1 /", "2 pair 0*1 // 1*1", "2 pair/",
        "2 pair 0*1/1*1", "2 pair > 0 : 1",
    ],
    "looks": [
        "2 pair 0*0 /", "2 pair 0*-1 /", "2 pair 2*1 /", "2 pair 3*1 /", "2 pair -1*1 /", "2 pair 1*1 0*1 /",
        "2 pair 0*1 0*1 /", "2 pair 0*1 0*2 /", "2 pair 0 /", "2 pair 0* /", "2 pair *1 /", "2 pair 0*1*1 /",
        "2 pair 0*01 /", "2 pair 00*1 /", "2 pair 0*+1 /", "2 pair 0*x /", "2 pair x*1 /", "2 pair / 2*1",
        "2 pair / 1*1 0*1", "2 pair 0:1 /", "2 pair 0 * 1 /", "2 pair -0*1 /", "2 pair 0*1, 1*1 /",
    ],
    "lots": [
        "2 function 0", "2 function >", "2 function > 0", "2 function > 0 :", "2 function > 0 1", "2 function 0 : 1",
        "2 function : 1", "2 function > : 1", "2 function > 2 : 1", "2 function > -1 : 1", "2 function > 0 : 0",
        "2 function > 0 : -1", "2 function > 0 : 01", "2 function > 00 : 1", "2 function > 0 : x",
        "2 function > x : 1", "2 function 0*1 0 : 1", "2 function 2*1 > 0 : 1", "2 function 0*0 > 0 : 1",
        "2 function 1*1 0*1 > 0 : 1", "2 function > 0 : 1 : 1", "2 function > > 0 : 1", "2 function 0 > 0 : 1",
        "2 function > 0 > 0 : 1", "2 function >0 : 1", "2 function > 0: 1", "2 function /",
    ],
    "lots of several": [
        "2 function > 0 : 1 ;", "2 function ; > 0 : 1", "2 function ;", "2 function > 0 : 1 ; ; > 1 : 1",
        "2 function > 0 : 1 > 1 : 1", "2 function > 1 : 1 ; > 0 : 1", "2 function > 0 : 1 ; > 0 : 1",
        "2 function > 0 : 1 ; > 0 : 2", "2 function 0*1 > 0 : 1 ; > 0 : 1", "2 function > 0 : 1; > 1 : 1",
        "2 function > 0 : 1 ; > 1 : 1 ;", "2 function > 0 : 1 , > 1 : 1",
    ],
}


class Texts(Refusals, unittest.TestCase):
    def test_the_lines(self):
        self.assertEqual(uses_text(TABLE), "\n".join(LINES))
        self.assertEqual(uses_in("\n".join(LINES)), TABLE)
        self.assertEqual(uses_in(text=uses_text(table=TABLE)), TABLE)

    def test_without_signs(self):
        self.assertEqual([uses_text(()), uses_in("")], ["", ()])

    def test_back(self):
        for seed in range(200):
            table = Lot(seed).table(14)
            self.assertEqual(uses_in(uses_text(table)), table)

    def test_great_counts(self):
        table = (("number", 1), ("pair", ((0, 10 ** 790 + 7),), ()))
        self.assertEqual(uses_in(uses_text(table)), table)

    def test_no_string(self):
        for value in any_values():
            if type(value) is not str:
                self.assert_refused_equal(BadText, 0, uses_in, value)

    def test_lines_that_are_none(self):
        for kind, lines in WRONG.items():
            for line in lines:
                with self.subTest(kind, line=line):
                    self.assert_refused_equal(BadText, 3, uses_in, f"0 number 5\n1 number 10\n{line}")
                    self.assert_refused_equal(BadText, 3, uses_in, f"0 number 5\n1 number 10\n{line}\n3 number 5")

    def test_the_same_lines_put_right(self):
        for line in ("2 number 5", "2 function", "2 pair /", "2 pair 0*1 1*2 / 1*1", "2 function > 0 : 1 ; > 1 : 1",
                     "2 function 0*1 1*7 > 0 : 3", "2 number -9999"):
            self.assertEqual(len(uses_in(f"0 number 5\n1 number 10\n{line}")), 3)

    def test_the_first_line_counts(self):
        self.assert_refused_equal(BadText, 1, uses_in, "\n")
        self.assert_refused_equal(BadText, 1, uses_in, "1 number 5\nnothing")
        self.assert_refused_equal(BadText, 2, uses_in, "0 number 5\n")
        self.assert_refused_equal(BadText, 2, uses_in, "0 number 5\n\n2 number 5")
        self.assert_refused_equal(BadText, 1, uses_in, "0 pair 0*1 /\n1 number 5")
        self.assert_refused_equal(BadText, 1, uses_in, "0 pair 1*1 /\n1 number 5")
        self.assert_refused_equal(BadText, 12, uses_in, "\n".join(LINES + ["10 number 0", "11 pair 11*1 /"]))


if __name__ == "__main__":
    unittest.main()
