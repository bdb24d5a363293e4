"""Promise [8]."""

import re
import unittest
from itertools import product
from random import Random

from helping import random_poly

from nearcurves.errors import BadText
from nearcurves.polys import Poly, poly_of, poly_text

WHOLE = "(0|[1-9][0-9]{0,39})"
NUMBER = f"{WHOLE}(/[1-9][0-9]{{0,39}})?"
POWER = r"x(\^(1[0-2]|[0-9]))?"
TERM = rf"({NUMBER}( *\* *{POWER})?|{POWER})"
TEXT = re.compile(f" *(- *)?{TERM}( *[+-] *{TERM})* *")
ENDS = ("", "1", "x")
LONG = "1234567890" * 4


def goes_on(text):
    """Whether some text of a polynomial begins so: one of these ends always makes a beginning whole."""
    return any(TEXT.fullmatch(text + end) for end in ENDS)


def wrong_column(text):
    """The column of a text that is none, by its longest beginning that goes on."""
    many = len(text)
    while not goes_on(text[:many]):
        many -= 1
    return many + 1


class TestReading(unittest.TestCase):
    def check(self, text, *numbers):
        self.assertEqual(poly_of(text), Poly(numbers), text)

    def test_numbers(self):
        self.check("0")
        self.check("7", 7)
        self.check("-7", -7)
        self.check("10203", 10203)
        self.check("1/2", (1, 2))
        self.check("-6/4", (-3, 2))
        self.check("0/5")
        self.check("-0")
        self.check(LONG, int(LONG))
        self.check(f"{LONG}/{'9' * 40}", (int(LONG), 10 ** 40 - 1))

    def test_powers(self):
        self.check("x", 0, 1)
        self.check("-x", 0, -1)
        self.check("x^0", 1)
        self.check("x^1", 0, 1)
        for power in range(13):
            self.check(f"x^{power}", *[0] * power, 1)
            self.check(f"- 3/6*x^{power}", *[0] * power, (-1, 2))

    def test_terms(self):
        self.check("2*x", 0, 2)
        self.check("1 + x", 1, 1)
        self.check("1-x", 1, -1)
        self.check("-1-x", -1, -1)
        self.check("x^2 - 3/2*x + 4", 4, (-3, 2), 1)
        self.check("0*x^12 + 5", 5)
        self.check("x^12 - 1", -1, *[0] * 11, 1)

    def test_a_power_in_several_terms(self):
        self.check("x + x + x^1", 0, 3)
        self.check("1 + 1/2 - x^0", (1, 2))
        self.check("x - x")
        self.check("1/3*x^2 - 1/2*x^2 + x^2", 0, 0, (5, 6))
        self.check("+".join(["1/3"] * 300), 100)

    def test_spaces(self):
        for space in ("", " ", "   "):
            self.check(space.join(["", "-", "3", "*", "x^2", "+", "1/2", "-", "x", ""]), (1, 2), -1, -3)
            self.check(space.join(["", "x", "-", "x^3", ""]), 0, 1, 0, -1)
        self.check(" 3/4 ", (3, 4))

    def test_all_short_texts(self):
        for many in range(5):
            for signs in product("013x^*/+- ", repeat=many):
                self.compare("".join(signs))

    def test_longer_texts(self):
        random = Random(8)
        pieces = ["0", "1", "2", "9", "12", "x", "^", "x^", "x^1", "*", "/", "+", "-", " ", "  ", " + ", "3/4", "5*x", "a", "."]
        for _ in range(20000):
            self.compare("".join(random.choices(pieces, k=random.randrange(4, 12))))

    def compare(self, text):
        try:
            poly_of(text)
        except BadText as error:
            self.assertEqual(error.column, wrong_column(text), text)
            self.assertIsNone(TEXT.fullmatch(text), text)
        else:
            self.assertIsNotNone(TEXT.fullmatch(text), text)


class TestWrongTexts(unittest.TestCase):
    def bad(self, text, column):
        with self.assertRaises(BadText) as caught:
            poly_of(text)
        self.assertEqual(caught.exception.column, column, text)

    def test_no_strings(self):
        for value in (None, 0, 5, True, (1, 2), ["1"], b"1", Poly((1,)), {}, 1.5):
            self.bad(value, 0)

    def test_early_ends(self):
        for text in ("", " ", "    ", "-", "- ", "1 +", "1 + ", "1/", "3*", "3 * ", "x^", "1 - 2/", "x + x^"):
            self.bad(text, len(text) + 1)

    def test_signs(self):
        for text, column in (("+x", 1), (" +1", 2), ("--x", 2), ("- -x", 3), ("1 + -x", 5), ("1 - + 2", 5), ("1++1", 3),
                             ("2**x", 3), ("2*-x", 3), ("*x", 1), ("/2", 1), ("^2", 1), ("x*2", 2), ("x * x", 3), ("x/2", 2),
                             ("1/-2", 3), ("x^-1", 3), ("x^+1", 3), ("1*", 3), ("2*3", 3), ("2*x*3", 4), ("2*x*x", 4)):
            self.bad(text, column)

    def test_wholes(self):
        for text, column in (("01", 2), ("00", 2), ("1 + 07*x", 6), ("1/02", 3), ("1/0", 3), ("12/0 + x", 4), ("1/00", 3),
                             ("0/0", 3), ("1/2/3", 4), (LONG + "1", 41), ("1/" + LONG + "1", 43), (LONG + "/" + LONG + "5", 82),
                             ("x + " + LONG + "0*x", 45), ("1.5", 2), ("1e5", 2), ("1_0", 2), ("9" * 10000, 41)):
            self.bad(text, column)

    def test_powers(self):
        for text, column in (("x^13", 4), ("x^20", 4), ("x^01", 4), ("x^00", 4), ("x^120", 5), ("x^100", 5), ("x^99", 4),
                             ("3*x^13 + 1", 6), ("x2", 2), ("2x", 2), ("xx", 2), ("X", 1), ("y", 1), ("x^x", 3), ("x^y", 3),
                             ("x^1/2", 4), ("x^2^3", 4), ("x^(2)", 3)):
            self.bad(text, column)

    def test_spaces_within(self):
        for text, column in (("1 2", 3), ("1 /2", 3), ("1/ 2", 3), ("x ^2", 3), ("x^ 2", 3), ("x^1 2", 5), ("3 x", 3),
                             ("x 3", 3), ("1 0 + x", 3), ("- 3 /4", 5)):
            self.bad(text, column)

    def test_other_characters(self):
        for sign in ("\t", "\n", "\r", "a", "(", ".", ",", "\u00b2", "\u0661", "\u2212", "\u00a0", "\x00", "\U0001d7d9"):
            self.bad(sign, 1)
            self.bad("1" + sign, 2)
            self.bad("x^" + sign, 3)
            self.bad("x^1" + sign, 4)
            self.bad("1/" + sign, 3)
            self.bad("1 + x" + sign, 6)
            self.bad("2*" + sign + "x", 3)
            self.bad(" " + sign + "x", 2)

    def test_the_first_wrong_one_counts(self):
        self.bad("1 + 2x + 3y", 6)
        self.bad("x x^13", 3)


class TestTelling(unittest.TestCase):
    def test_texts(self):
        for numbers, text in (
            ((), "0"), ((1,), "1"), ((-1,), "-1"), (((1, 2),), "1/2"), (((-6, 4),), "-3/2"), ((0, 1), "x"), ((0, -1), "-x"),
            ((0, 2), "2*x"), ((0, (-2, 3)), "-2/3*x"), ((0, 0, 1), "x^2"), ((0, 0, -1), "-x^2"), ((1, 1), "1 + x"),
            ((1, -1), "1 - x"), ((-1, -1), "-1 - x"), ((0, -1, 1), "-x + x^2"), ((3, 0, (-1, 2)), "3 - 1/2*x^2"),
            (((1, 3), 1, -1, 2, -2), "1/3 + x - x^2 + 2*x^3 - 2*x^4"), ((0,) * 12 + (-1,), "-x^12"),
            ((0, 10, 0, 11), "10*x + 11*x^3"), ((1, 0, 0, (1, 10)), "1 + 1/10*x^3"), ((0,) * 40 + (5,), "5*x^40"),
        ):
            self.assertEqual(poly_text(Poly(numbers)), text)

    def test_poly_of_leads_back(self):
        random = Random(9)
        for seed in range(100):
            poly = random_poly(seed, seed % 13, 1 + seed % 40)
            rare = Poly([number if random.random() < 0.5 else random.choice((0, 1, -1)) for number in poly.numbers])
            for each in (poly, rare, -poly, -rare):
                self.assertEqual(poly_of(poly_text(each)), each)

    def test_long_numbers(self):
        poly = Poly((-10 ** 60, (10 ** 5000, 7)))
        self.assertEqual(poly_text(poly), "-1" + "0" * 60 + " + 1" + "0" * 5000 + "/7*x")


if __name__ == "__main__":
    unittest.main()
