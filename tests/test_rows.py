"""Promises [18], [19] and [20]."""

import unittest
from fractions import Fraction
from math import factorial
from random import Random

from checking import is_told_ratio, product_of, row_numbers
from helping import NO_RATIOS, Asking, fraction, pair, random_poly, random_ratio

from nearcurves import rows
from nearcurves.polys import Poly
from nearcurves.rows import (
    Row, atan_row, cos_row, exp_row, log_row, number_at, power_row, powered, scaled, sin_row, slope_row, terms_of,
)

NO_WHOLES = [value for value in NO_RATIOS if not (isinstance(value, int) and not isinstance(value, bool))] + [(2, 1), [4, 2]]


def some_rows():
    random = Random(31)
    found = [exp_row(), sin_row(), cos_row(), atan_row(), log_row(), power_row((1, 2)), power_row(3), power_row((-7, 3))]
    found.append(Row(0, Poly((1,)), Poly((1, 1)), 2, 3))
    found.append(Row((5, 3), Poly((1,)), Poly((1, 1)), 6, 6))
    found.append(Row(1, Poly(()), Poly((1,)), 1, 0))
    found.append(Row(1, Poly((0, 1)), Poly((7, 1)), 3, 0))
    found.append(Row((-3, 7), product_of(Poly((-4, 1)), Poly((-9, 1)), Poly((5, 1)), Poly((-1, 2))), Poly((1, 0, 0, 0, 2)), 2, 1))
    for seed in range(6):
        bottom = product_of(random_poly(seed, 2, 30), random_poly(seed + 50, 2, 3)) + (1, 10 ** 9)
        found.append(Row(random_ratio(random, 30), random_poly(seed + 9, 4, 60), bottom, seed + 1, 6 - seed))
    return found


class TestRow(Asking):
    def test_attributes(self):
        top, bottom = Poly((1, 2)), Poly((3,))
        row = Row([6, -4][:1] + [4], top, bottom, 2, 0)
        self.assertEqual((row.start, row.step, row.shift), ((3, 2), 2, 0))
        self.assertIs(row.top, top)
        self.assertIs(row.bottom, bottom)
        start = [6, 4]
        row = Row(start, top, bottom, 1, 5)
        start[0] = 1
        self.assertEqual(row.start, (3, 2))
        self.assertEqual(Row(-7, top, bottom, 1, 0).start, (-7, 1))

    def test_errors_in_their_order(self):
        good, bad = Poly((1, 1)), Poly((-3, 1))
        for start in NO_RATIOS:
            self.bad("start", start, Row, start, good, bad, 0, -1)
        for step in NO_WHOLES + [0, -1, -10 ** 30]:
            self.bad("step", step, Row, 1, good, bad, step, -1)
        for shift in NO_WHOLES + [-1, -10 ** 30]:
            self.bad("shift", shift, Row, 1, good, bad, 1, shift)
        self.bad_bottom(3, bad)

    def bad_bottom(self, zero, bottom):
        try:
            Row(1, Poly((1,)), bottom, 1, 0)
        except rows.BadNumber as caught:
            self.assertEqual((caught.what, caught.number), ("bottom", zero))
            self.assertIs(type(caught.number), int)
        else:
            self.assertIsNone(zero)

    def test_the_least_whole_zero_of_the_bottom(self):
        def lines(*zeros):
            return product_of(*[Poly((pair(-Fraction(zero)), 1)) for zero in zeros])

        self.bad_bottom(0, Poly(()))
        self.bad_bottom(0, Poly((0, 5)))
        self.bad_bottom(None, Poly((5,)))
        self.bad_bottom(None, lines(-1))
        self.bad_bottom(None, lines(Fraction(1, 2), -7, Fraction(10 ** 20, 3)))
        self.bad_bottom(2, lines(9, 2, 5))
        self.bad_bottom(2, lines(2, 2, 2, 9))
        self.bad_bottom(7, lines(-3, Fraction(1, 3), 7, 100))
        self.bad_bottom(10 ** 50, lines(-1, 10 ** 50))
        self.bad_bottom(10 ** 50, lines(10 ** 50, 10 ** 50, 10 ** 50 + 1) * Poly((1, 0, 1)))
        self.bad_bottom(4, lines(4) * Poly((-2, 0, 1)) * (3, 10 ** 60))
        self.bad_bottom(None, Poly((-2, 0, 1)))
        self.bad_bottom(12, product_of(*[Poly((-k, 1)) for k in range(12, 24)]))


class TestNumbers(Asking):
    def test_number_at(self):
        for row in some_rows():
            wanted = row_numbers(row, 12)
            for k in range(12):
                self.assertEqual(fraction(number_at(row, k)), wanted[k])
                self.assertTrue(is_told_ratio(number_at(row, k)))

    def test_far_behind_the_end(self):
        self.assertEqual(number_at(power_row(3), 10 ** 30), (0, 1))
        self.assertEqual(number_at(Row(0, Poly((1,)), Poly((1,)), 1, 0), 10 ** 30), (0, 1))

    def test_bad_places(self):
        for k in NO_WHOLES + [-1]:
            self.bad("k", k, number_at, exp_row(), k)
            self.bad("k", k, number_at, power_row(2), k)

    def test_terms_of(self):
        one = Poly((1,))
        cases = [
            (exp_row(), None), (power_row(0), 1), (power_row(5), 6), (power_row(-1), None), (power_row((1, 2)), None),
            (Row(0, one, one, 1, 0), 0), (Row(0, Poly((-3, 1)), one, 1, 0), 0), (Row(1, Poly(()), one, 1, 0), 1),
            (Row(1, Poly((0, 1)), one, 1, 0), 1), (Row(1, product_of(Poly((-7, 1)), Poly((-4, 1))), one, 1, 0), 5),
            (Row(1, product_of(Poly((7, 1)), Poly((-4, 3))), one, 1, 0), None), (Row(1, Poly((-2, 0, 1)), one, 1, 0), None),
            (Row(1, Poly((-10 ** 40, 1)), one, 1, 0), 10 ** 40 + 1),
        ]
        for row, terms in cases:
            self.assertEqual(terms_of(row), terms)


class TestMadeRows(Asking):
    def same(self, row, wanted, step, shift):
        self.assertIsInstance(row, Row)
        self.assertEqual((row.step, row.shift), (step, shift))
        for k, number in enumerate(wanted):
            self.assertEqual(fraction(number_at(row, k)), number)
        if terms_of(row) is not None:
            self.assertTrue(all(number == 0 for number in wanted[terms_of(row):]))
        elif len(wanted) > 9:
            self.assertTrue(any(wanted[9:]))

    def test_scaled(self):
        for row in some_rows():
            for factor in (1, -1, (1, 2), [-6, 4], 7, (-(10 ** 30), 3)):
                times = fraction(factor)
                wanted = [number * times ** (row.step * k + row.shift) for k, number in enumerate(row_numbers(row, 12))]
                self.same(scaled(row, factor), wanted, row.step, row.shift)

    def test_bad_factors(self):
        for factor in NO_RATIOS + [0, (0, 5), [0, 1]]:
            self.bad("factor", factor, scaled, exp_row(), factor)

    def test_powered(self):
        for row in some_rows():
            for many in (1, 2, 5):
                self.same(powered(row, many), row_numbers(row, 12), row.step * many, row.shift * many)

    def test_bad_manies(self):
        for many in NO_WHOLES + [0, -1]:
            self.bad("many", many, powered, exp_row(), many)

    def slopes(self, row, many):
        found = row_numbers(row, many + 1)
        if row.shift >= 1:
            return [(row.step * k + row.shift) * found[k] for k in range(many)], row.shift - 1
        return [row.step * (k + 1) * found[k + 1] for k in range(many)], row.step - 1

    def test_slope_row(self):
        for row in some_rows():
            wanted, shift = self.slopes(row, 12)
            self.same(slope_row(row), wanted, row.step, shift)

    def test_slopes_of_slopes(self):
        for row in some_rows():
            for _ in range(3):
                wanted, shift = self.slopes(row, 11)
                row = slope_row(row)
                self.same(row, wanted, row.step, shift)

    def test_one_behind_the_other(self):
        for row in some_rows():
            made = scaled(powered(slope_row(row), 2), (-2, 3))
            wanted, shift = self.slopes(row, 11)
            factors = [Fraction(-2, 3) ** (2 * (row.step * k + shift)) for k in range(11)]
            self.same(made, [number * factor for number, factor in zip(wanted, factors)], 2 * row.step, 2 * shift)
            again = slope_row(made)
            wanted, shift = self.slopes(made, 11)
            self.same(again, wanted, made.step, shift)


class TestNamedRows(Asking):
    def same(self, row, wanted, step, shift, terms=None):
        self.assertEqual((row.step, row.shift, terms_of(row)), (step, shift, terms))
        self.assertEqual([fraction(number_at(row, k)) for k in range(20)], [wanted(k) for k in range(20)])

    def test_rows(self):
        self.same(exp_row(), lambda k: Fraction(1, factorial(k)), 1, 0)
        self.same(sin_row(), lambda k: Fraction((-1) ** k, factorial(2 * k + 1)), 2, 1)
        self.same(cos_row(), lambda k: Fraction((-1) ** k, factorial(2 * k)), 2, 0)
        self.same(atan_row(), lambda k: Fraction((-1) ** k, 2 * k + 1), 2, 1)
        self.same(log_row(), lambda k: Fraction((-1) ** k, k + 1), 1, 1)

    def test_power_row(self):
        for a in (0, 1, 5, -1, -4, (1, 2), (-7, 3), [9, 6], (12, 4), (10 ** 30, 7)):
            def wanted(k, number=Fraction(1)):
                for j in range(k):
                    number = number * (fraction(a) - j) / (j + 1)
                return number

            whole = fraction(a)
            ends = whole.denominator == 1 and whole >= 0
            self.same(power_row(a), wanted, 1, 0, whole.numerator + 1 if ends else None)

    def test_bad_powers(self):
        for a in NO_RATIOS:
            self.bad("a", a, power_row, a)

    def test_they_are_defined_here(self):
        self.are_defined_in(rows, "Row", "number_at", "terms_of", "scaled", "powered", "slope_row", "exp_row", "sin_row", "cos_row", "atan_row",
                            "log_row", "power_row")


if __name__ == "__main__":
    unittest.main()
