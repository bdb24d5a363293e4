"""Texts of programs, and what programs tell for an input."""

import unittest

from helping import Asking

from nearcurves import programs
from nearcurves.errors import BadLine, TooWide
from nearcurves.programs import Program

THIRTY = "123456789012345678901234567890"

# Wrong lines as the only one of a text, with the column.
WRONG = [
    ("y", 2), ("y ", 3), ("y =", 4), ("y = ", 5), ("y 3", 3), ("=", 1), ("3 = x", 1), ("Y = x", 1), ("_y = x", 1),
    ("y_ = x", 2),
    ("y == x", 4), ("y = X", 5), ("y = x x", 7), ("y = x 3", 7), ("y = 3x", 6), ("y = 3 x", 7), ("y = x + ", 9),
    ("y = x +", 8),
    ("y = + x", 5), ("y = x ** 3", 8), ("y = x / 3", 7), ("y = x + x + x", 11), ("y = (x)", 5), ("y = x;", 6),
    ("y = x\t", 6),
    ("\ty = x", 1), ("y = x\r", 6), ("y = -x", 6), ("y = - 4", 6), ("y = --4", 6), ("y = 3 - - 4", 10), ("y = 3 - --4", 10),
    ("y = 00", 6), ("y = 01", 6), ("y = -01", 7), ("y = -", 6), (f"y = {THIRTY}1", 35), (f"y = -{THIRTY}1", 36),
    (f"y = x * {THIRTY}0", 39), ("y = 1.5", 6), ("y = x < 3", 8), ("y = x <", 8), ("y = x < < 3", 8), ("y = x <> 3", 8),
    ("y = x >", 8), ("y = x >= 3", 8), ("y = x << ", 10), ("y = x << x", 10), ("y = x << -3", 10), ("y = x << 61", 11),
    ("y = x << 600", 12), ("y = x << 612", 11), ("y = x << 70", 11), ("y = x << 100", 12), ("y = x << 00", 11),
    ("y = x << 3 4", 12),
    ("y = x << 3x", 11), ("y = x & x", 9), ("y = x & -1", 9), ("y = x && 3", 8), ("y = x & 61", 10), ("y = x >> 99", 11),
    ("x = 3", 2), ("x", 2), ("x=3", 2), (" x = 3", 3), ("x3", 3), ("table", 6), ("table ", 7), ("table = 3", 7),
    ("table t", 8),
    ("table t ", 9), ("table t x", 9), ("table t 1 x", 11), ("table t 1,2", 10), ("table t -", 10), ("table t - 1", 10),
    ("table t 1 -", 12), ("table t 1 - 2", 12), ("table t 1-2", 10), ("table t 01", 10), ("table t = 1", 9),
    ("table x 1", 8),
    ("table table 1", 12), ("table 3 1", 7), (f"table t {THIRTY}1", 39), ("tablet", 7), ("abcdefghi = x", 9),
    ("abcdefghij", 9),
    ("y = abcdefghi", 13), ("y = x + abcdefghi3", 17), ("table abcdefghi 1", 15), ("y = z", 5), ("y = y", 5),
    ("y = y + 1", 5),
    ("y = x + y", 9), ("y = x + z3", 9), ("y = z[3]", 5), ("y = z[", 5), ("y = x[3]", 6), ("y = 3[3]", 6), ("y = table", 5),
    ("y = table[3]", 5), ("y = x + table", 9), ("y = z +", 5), ("y = \xe9", 5), ("y = x + \xb2", 9), ("y = x << \xb2", 10),
    ("y = 1\xb2", 6),
]

# Wrong lines behind "table t 1 2", "s = x".
WRONG_THEN = [
    ("t = x", 1), ("s = x", 1), ("s", 1), ("  s = ", 3), ("s = z", 1), ("table", 6), ("table u 1", 6), ("tables = t", 11),
    ("y = t", 6), ("y = t ", 7), ("y = t + 1", 7), ("y = t[", 7), ("y = t[]", 7), ("y = t[1", 8), ("y = t[1]]", 9),
    ("y = t[1] + 1", 10),
    ("y = t[t]", 7), ("y = t[t[1]]", 7), ("y = t[z]", 7), ("y = t[x + 1]", 9), ("y = s[1]", 6), ("y = 1 + t", 9),
    ("y = 1 + t[1]", 9),
    ("y = s s", 7), ("y = s3", 5), ("y = ss", 5), ("y = 1 - u", 9), ("y = t(1)", 6), ("y = t[1x]", 8),
    ("y = t [ 1 ] 2", 13),
]


class TestTexts(Asking):
    def wrong(self, text, line, column):
        with self.assertRaises(BadLine) as caught:
            Program(text)
        self.assertEqual((caught.exception.line, caught.exception.column), (line, column), text)

    def test_right_lines(self):
        for text, x, told in (
            ("y = x", 7, 7), ("y=x", 7, 7), ("  y  =  x  ", 7, 7), ("y = 3", 7, 3), ("y = -3", 7, -3), ("y = -0", 7, 0),
            ("y=3-4", 0, -1),
            ("y = 3 -4", 0, -1), ("y = 3 - -4", 0, 7), ("y = 3--4", 0, 7), ("y = -3--4", 0, 1), ("y = -3+-4", 0, -7),
            ("y = x*x", 9, 81),
            ("y = x * -2", 9, -18), ("y = -2*x", 9, -18), ("y = x << 3", 5, 40), ("y = x<<0", 5, 5),
            ("y = x << 60", 1, 2 ** 60),
            ("y = -7 >> 1", 0, -4), ("y = -7 & 2", 0, 1), ("y = x & 0", 9, 0), ("y = x >> 60", 2 ** 70, 1024),
            ("y = 5 & 60", 0, 5),
            ("a1 = x\nb = a1 + 1", 4, 5), ("table1 = x\ny = table1", 4, 4), ("x1 = 3\ny = x1 - x", 4, -1),
            ("abcdefgh = x", 2, 2),
            ("table t 5 -6 7\ny = t[x]", 1, -6), (" table  t  5   -6 \n y = t [ x ] ", 0, 5), ("table t 5\ny=t[0]", 9, 5),
            ("table x1 5\ntable tables 6\ny = tables[x]", 0, 6), (f"y = {THIRTY}", 0, int(THIRTY)),
            (f"y = -{THIRTY}", 0, -int(THIRTY)),
            (f"table t -{THIRTY}\ny = t[x]", 0, -int(THIRTY)), ("y = 0", 1, 0), ("y = 10", 1, 10),
            ("y = x\n\n  \nz = y\n\n", 3, 3),
            ("\n \ntable t 1\n\ny = x", 3, 3), ("y = x\nz = 4", 3, 4), ("to = x", 2, 2), ("tabl = x\ny = tabl", 2, 2),
        ):
            for whole in (text, text + "\n", text + "\n\n   \n", "\n" + text):
                program = Program(whole)
                self.assertEqual(program.at(x), told, whole)
                self.assertIs(program.text, whole)

    def test_names_and_values(self):
        program = Program("table t 1 2 4 8\na = x & 2\nb = t[a]\nc = b * x\nd = c - b\n")
        self.assertEqual(program.names, ("a", "b", "c", "d"))
        self.assertEqual(program.all_at(6), (2, 4, 24, 20))
        self.assertEqual(program.all_at(0), (0, 1, 0, -1))
        self.assertEqual(program.at(10 ** 40 + 3), program.all_at(10 ** 40 + 3)[-1])
        self.assertEqual(program.all_at(7), (3, 8, 56, 48))

    def test_inputs_of_many_digits(self):
        program = Program("a = x * x\nb = a >> 13\nc = b & 60\nd = b - c\ne = d << 7\n")
        for x in (0, 1, 10 ** 30, 10 ** 200 + 7, 3 ** 1000):
            b = x * x // 2 ** 13
            self.assertEqual(program.all_at(x), (x * x, b, b % 2 ** 60, b - b % 2 ** 60, (b - b % 2 ** 60) * 128))

    def test_floors_of_values_below_zero(self):
        program = Program("a = 3 - x\nb = a >> 2\nc = a & 2")
        for x in range(40):
            self.assertEqual(program.all_at(x), (3 - x, (3 - x) // 4, (3 - x) % 4))

    def test_wrong_inputs(self):
        program = Program("y = x")
        for x in (-1, True, False, None, "1", 1.0, (1, 1), [1], program):
            self.bad("x", x, program.at, x)
            self.bad("x", x, program.all_at, x)

    def test_indices_that_a_table_does_not_have(self):
        program = Program("table t 5 6\na = x - 1\nb = t[a]\nc = 1")
        self.assertEqual([program.at(1), program.at(2)], [1, 1])
        for x in (0, 3, 10 ** 40):
            for function in (program.at, program.all_at):
                with self.assertRaises(TooWide):
                    function(x)
        self.bad("x", -1, program.at, -1)

    def test_wrong_lines(self):
        for line, column in WRONG:
            self.wrong(line, 1, column)
            self.wrong(line + "\n", 1, column)
            self.wrong(line + "\ny = x", 1, column)
            self.wrong("\n  \n" + line, 3, column)
        for line, column in WRONG_THEN:
            self.wrong("table t 1 2\ns = x\n" + line, 3, column)
            self.wrong("table t 1 2\n\n s = x \n\n" + line + "\n!", 5, column)

    def test_no_step(self):
        for text, line in (("", 1), ("\n", 2), ("  ", 2), (" \n", 2), ("\n\n", 3), ("table t 1", 2), ("table t 1\n", 2),
            ("table t 1\n ", 3)):
            self.wrong(text, line, 1)

    def test_what_is_no_string(self):
        for text in (None, 3, b"y = x", ["y = x"], ("y = x",), True, Program("y = x")):
            self.wrong(text, 0, 0)

    def test_each_beginning_of_a_right_line(self):
        # A text that is cut off is right, or wrong just behind its last character.
        text = "table ab 1 -22\ncd = x * -33\nef = ab [ cd ]\ngh = ef >> 45"
        for end in range(len(text)):
            cut = text[:end]
            lines = cut.split("\n")
            try:
                Program(cut)
            except BadLine as wrong:
                if wrong.line == len(lines):
                    names = "=" in lines[-1] and lines[-1].endswith((" a", " e", " c"))
                    self.assertEqual(wrong.column, len(lines[-1]) + (0 if names else 1), cut)
                else:
                    self.assertEqual((wrong.line, wrong.column), (len([line for line in lines if line]) + 1, 1), cut)

    def test_where_it_is_defined(self):
        self.are_defined_in(programs, "Program")
        self.assertNotEqual(Program("y = x"), Program("y = x"))


if __name__ == "__main__":
    unittest.main()
