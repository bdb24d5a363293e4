"""Promises [41] to [47]."""

import unittest
from fractions import Fraction
from random import Random

from checking import (
    is_told_ratio, moments_vanish, paper_holds, share_paper_holds, sums_by_terms, tail_by_sum, value_near, worth,
)
from helping import NO_BITS, NO_INTERVALS, NO_RATIOS, Asking, fraction, pair, random_poly, random_ratio
from test_pointfits import NO_POWERS, is_of

from nearcurves import intervalfits
from nearcurves.errors import Pole, TooWide
from nearcurves.errors_of import Paper, enclosed_error, shows, shows_share
from nearcurves.functions import Mixed, Pieces, Quotient
from nearcurves.intervalfits import (
    Bar, Enclosed, LeastDegree, Nearer, NoDegree, Unsure, bar_number, bar_share, enclosed, enclosed_share, is_enclosed,
    is_enclosed_share, least_degree, one_less,
)
from nearcurves.polys import Poly, poly_of
from nearcurves.rows import atan_row, cos_row, exp_row, log_row, power_row, powered, scaled, sin_row

ONE = Poly((1,))
OTHERS = [None, True, 0, "told", (), [], (1, 2), {}, object(), ONE, Bar, Enclosed]
HALVES = ((-1, (1, 2)), (1, (-1, 2)))


def mixed(*rows):
    return Mixed(Poly(()), [(ONE, row) for row in rows])


def size_of_x():
    return Pieces((-1, 0, 1), (Poly((0, -1)), Poly((0, 1))))


def runge():
    return Quotient(ONE, poly_of("x^2 + 1"))


def wide_one():
    rows = [exp_row(), scaled(atan_row(), (1, 12)), scaled(power_row((-5, 3)), (1, 20)), powered(sin_row(), 2)]
    factors = [Poly((0, 1, (1, 3), 4, 5, 6, 7)), Poly((1, 1)), Poly((3, (1, 7))), ONE]
    return Mixed(Poly((1, 2)), list(zip(factors, rows)))


class Judging(Asking):
    def value_at(self, function, point, terms):
        if isinstance(function, Mixed):
            return worth(sums_by_terms(function, terms), fraction(point))
        return value_near(function, fraction(point))[0]

    def number_by_sums(self, function, powers, low, high, bar):
        """The number of a bar, and that for shares, by the sums of the document; None if it is none."""
        points = [fraction(point) for point, _ in bar.rows]
        if points != sorted(set(points)) or not all(fraction(low) <= point <= fraction(high) for point in points):
            return None
        if any(fraction(share) == 0 for _, share in bar.rows) or sum(abs(fraction(share)) for _, share in bar.rows) != 1:
            return None
        if not moments_vanish(bar.rows, powers):
            return None
        rest = tail_by_sum(function, low, high, bar.terms)
        values = [(fraction(share), self.value_at(function, point, bar.terms)) for point, share in bar.rows]
        number = sum(share * number for share, number in values) - rest
        sizes = sum(abs(share * number) for share, number in values) + rest
        return number, number / sizes if sizes else None

    def holds(self, function, powers, low, high, bits):
        found = enclosed(function, powers, low, high, bits)
        self.assertIsInstance(found, Enclosed)
        self.assertTrue(is_of(found.poly, powers) and is_told_ratio(found.least) and is_told_ratio(found.most))
        self.assertLessEqual(fraction(found.most) - fraction(found.least), Fraction(1, 2 ** bits))
        self.assertEqual(self.number_by_sums(function, powers, low, high, found.bar)[0], fraction(found.least))
        self.assertEqual(bar_number(function, powers, low, high, found.bar), found.least)
        self.assertIs(shows(found.paper, found.poly, function, low, high, found.most), True)
        self.assertIs(is_enclosed(function, powers, low, high, found), True)
        self.assertIs(type(found.bar.rows), tuple)
        return found

    def holds_share(self, function, powers, low, high, bits):
        found = enclosed_share(function, powers, low, high, bits)
        self.assertIsInstance(found, Enclosed)
        self.assertTrue(is_of(found.poly, powers) and is_told_ratio(found.least) and is_told_ratio(found.most))
        self.assertLessEqual(fraction(found.most) - fraction(found.least), Fraction(1, 2 ** bits))
        self.assertEqual(self.number_by_sums(function, powers, low, high, found.bar)[1], fraction(found.least))
        self.assertEqual(bar_share(function, powers, low, high, found.bar), found.least)
        if found.paper is None:
            self.assertEqual((found.poly, found.most), (Poly(()), (1, 1)))
        else:
            self.assertIs(shows_share(found.paper, found.poly, function, low, high, found.most), True)
        self.assertIs(is_enclosed_share(function, powers, low, high, found), True)
        return found


class TestBars(Judging):
    def test_numbers(self):
        cases = [
            (poly_of("x^3 + 7"), (0, 1, 2), ((-1, (-1, 8)), ((-1, 2), (1, 3)), ((1, 2), (-1, 3)), (1, (5, 24))), False),
            (poly_of("x^3 + x^2"), (1,), HALVES, False), (poly_of("x^3 + x^2"), (0, 2), HALVES, True), (runge(), (0, 2, 4), HALVES, True),
            (poly_of("x^2 + 5"), (1, 3), ((0, 1),), True), (poly_of("x^2 + 5"), (1, 3), ((0, (-7, 7)),), True),
            (mixed(exp_row()), (0, 2, 4), HALVES, True), (mixed(power_row(3)), (0, 2), HALVES, True), (size_of_x(), (0, 2), HALVES, True),
            (size_of_x(), (0, 1), ((-1, (1, 4)), (0, (-1, 2)), (1, (1, 4))), True), (ONE, (0,), (((-1, 2), (-2, 4)), ((1, 2), (2, 4))), True),
        ]
        for function, powers, rows, right in cases:
            for terms in (0, 1, 9):
                bar = Bar(terms, rows)
                told = bar_number(function, powers, -1, 1, bar)
                wanted = self.number_by_sums(function, powers, -1, 1, bar) if right else None
                if terms != 0 and not isinstance(function, Mixed) or terms == 0 and function.__class__ is Mixed and function.parts[0][1].top.degree() == 0:
                    wanted = None
                if wanted is None:
                    self.assertIsNone(told)
                else:
                    self.assertTrue(is_told_ratio(told))
                    self.assertEqual(fraction(told), wanted[0])
                    self.assertEqual(bar_number(function, list(powers), -1, 1, Bar(terms, list(rows))), told)

    def test_shares(self):
        for function, sign in ((poly_of("x + 3"), 1), (poly_of("x - 3"), -1), (runge(), 1), (mixed(exp_row()), 1),
                               (Pieces((-1, 0, 1), (Poly((1, -1)), Poly((1, 2)))), 1), (Quotient(ONE, poly_of("x - 2")), -1)):
            for powers, rows in (((0, 2), HALVES), ((1, 3), ((0, 1),)), ((0, 1), ((-1, (1, 4)), (0, (-1, 2)), (1, (1, 4))))):
                terms = 8 if isinstance(function, Mixed) else 0
                told = bar_share(function, powers, -1, 1, Bar(terms, rows))
                self.assertTrue(is_told_ratio(told))
                self.assertEqual(fraction(told), self.number_by_sums(function, powers, -1, 1, Bar(terms, rows))[1])

    def test_one_thing_changed(self):
        rows = ((-1, (1, 4)), (0, (-1, 2)), (1, (1, 4)))
        wrong = [
            (), rows[:2], rows[::-1], list(list(row) for row in rows), tuple(list(row) for row in rows), rows + rows[-1:], rows[:2] + ((2, (1, 4)),),
            ((-2, (1, 4)),) + rows[1:], ((-1, (1, 2)), (0, -1), (1, (1, 2))), ((-1, [1, 4]),) + rows[1:], (([-1, 1], (1, 4)),) + rows[1:],
            rows[:1] + (((-1, 2), 0),) + rows[1:], ((-1, (1, 4), 0),) + rows[1:], ((-1, (1, 4)), (-1, (-1, 2)), (1, (1, 4))), None, 0, "rows", {},
            ((-1, (1, 4)), (0, (-1, 2)), (1, (-1, 4))), rows + (None,),
        ]
        wrong += [((-1, value),) + rows[1:] for value in NO_RATIOS] + [((value, (1, 4)),) + rows[1:] for value in NO_RATIOS]
        function = poly_of("x^2 + 1")
        values = OTHERS + [rows] + [Bar(0, value) for value in wrong]
        values += [Bar(value, rows) for value in (-1, 1, 10 ** 30, None, True, False, "0", (0, 1), 0.0)]
        for value in values:
            self.assertIsNone(bar_number(function, (0, 1), -1, 1, value))
            self.assertIsNone(bar_share(function, (0, 1), -1, 1, value))
            self.assertIsNone(bar_share(Poly((0, 1)), (0, 1), -1, 1, value))
        self.assertEqual(bar_number(function, (0, 1), -1, 1, Bar(0, rows)), (1, 2))
        self.assertEqual(bar_number(function, (0, 1), -1, 1, Bar(0, (((-2, 2), (2, 8)),) + rows[1:])), (1, 2))
        for powers in ((0, 2), (2,), (0, 1, 2)):
            self.assertIsNone(bar_number(function, powers, -1, 1, Bar(0, rows)))

    def test_terms_that_are_too_few(self):
        function = mixed(exp_row())
        self.assertIsNone(bar_number(function, (0, 2), -1, 1, Bar(0, HALVES)))
        self.assertIsNone(bar_share(function, (0, 2), -1, 1, Bar(0, HALVES)))
        self.assertIsNotNone(bar_number(function, (0, 2), -1, 1, Bar(1, HALVES)))
        with self.assertRaises(Pole):
            bar_share(function, (0, 2), -1, 1, Bar(1, HALVES))

    def test_poles(self):
        for function in (Poly((0, 1)), poly_of("x^2 - 1"), poly_of("x^4 - x^2 + 1/4"), size_of_x(), Poly(()), Quotient(Poly((0, 1)), Poly((2, 1)))):
            with self.assertRaises(Pole):
                bar_share(function, (0, 2), -1, 1, Bar(0, HALVES))
            self.assertIsNone(bar_share(function, (0, 1), -1, 1, Bar(0, HALVES)))
        with self.assertRaises(Pole):
            bar_share(mixed(sin_row()), (0, 2), -1, 1, Bar(20, HALVES))

    def test_errors_in_their_order(self):
        pole, wide, pieces = Quotient(ONE, Poly((0, 1))), mixed(log_row()), size_of_x()
        calls = [
            lambda *told: bar_number(*told, None), lambda *told: bar_share(*told, None), lambda *told: enclosed(*told, -1),
            lambda *told: enclosed_share(*told, -1), lambda *told: is_enclosed(*told, None), lambda *told: is_enclosed_share(*told, None),
        ]
        for call in calls:
            for low, high in NO_INTERVALS:
                for function in (pole, wide, pieces):
                    self.bad_interval(low, high, call, function, None, low, high)
            for low, high in ((-2, 0), (0, 2), (-3, -2), ((-10 ** 30 - 1, 10 ** 30), 1)):
                self.bad_interval(low, high, call, pieces, None, low, high)
            for powers in NO_POWERS:
                for function in (pole, wide, pieces):
                    self.bad_row(powers, call, function, powers, -1, 1)
            with self.assertRaises(Pole):
                call(pole, (0, 1), -1, 1)
        for bits in NO_BITS:
            for function in (wide, pieces, Poly((0, 1))):
                self.bad("bits", bits, enclosed, function, (0, 1), -1, 1, bits)
                self.bad("bits", bits, enclosed_share, function, (0, 1), -1, 1, bits)
        for call in calls[:2] + calls[4:] + [lambda *told: enclosed(*told, 1), lambda *told: enclosed_share(*told, 1)]:
            with self.assertRaises(TooWide):
                call(wide, (0, 1), -1, 1)


class TestEnclosed(Judging):
    def test_known_ones(self):
        found = self.holds(poly_of("x^2"), (0, 1), -1, 1, 40)
        self.assertTrue(fraction(found.least) <= Fraction(1, 2) <= fraction(found.most))
        found = self.holds(size_of_x(), (0, 1), -1, 1, 20)
        self.assertTrue(fraction(found.least) <= Fraction(1, 2) <= fraction(found.most))
        found = self.holds(poly_of("x^3"), (0, 1, 2), -2, 2, 20)
        self.assertTrue(fraction(found.least) <= 2 <= fraction(found.most))

    def test_small_ones_by_products_and_corners(self):
        cases = [
            (poly_of("x^2"), (0, 1), -1, 1, 10), (mixed(exp_row()), (0, 1, 2), -1, 1, 12), (runge(), (0, 2), -2, 1, 12),
            (size_of_x(), (0, 2), -1, (1, 2), 10), (mixed(power_row(4)), (0, 1), 0, 1, 10), (Quotient(-ONE, poly_of("-2 - x")), (1, 2), 0, 3, 8),
        ]
        for function, powers, low, high, bits in cases:
            found = self.holds(function, powers, low, high, bits)
            self.assertTrue(paper_holds(found.paper, found.poly, function, low, high, found.most))
            if function.__class__ is not Pieces:
                found = self.holds_share(function + ONE if isinstance(function, Poly) else function, powers, low, high, bits)
                if found.paper is not None:
                    other = function + ONE if isinstance(function, Poly) else function
                    self.assertTrue(share_paper_holds(found.paper, found.poly, other, low, high, found.most))

    def test_even_odd_and_other_powers(self):
        for function, low, high in ((mixed(exp_row()), -1, 1), (mixed(sin_row()), -1, 1), (mixed(cos_row()), (-1, 2), 1),
                                    (mixed(atan_row()), (-7, 10), (7, 10)), (Mixed(ONE, [(Poly((0, 1)), sin_row()), (ONE, exp_row())]), 0, 2)):
            for powers in ((0, 1, 2, 3), (0, 2, 4), (1, 3, 5), (0, 3, 12), (1, 2), (5,), (0,)):
                for bits in (0, 24):
                    self.holds(function, powers, low, high, bits)

    def test_exact_functions(self):
        for function, low, high in ((runge(), -5, 5), (size_of_x(), -1, 1), (size_of_x(), (-1, 3), 1), (poly_of("x^12 - 3*x^5 + x"), -1, 2),
                                    (Quotient(ONE, poly_of("1/1000 + x")), 0, 1), (mixed(power_row(12)), -2, (1, 3))):
            for powers in (tuple(range(9)), (0, 2, 4, 6, 8, 10, 12), (1, 3, 5, 7), (1, 2, 4, 7), (0, 5)):
                self.holds(function, powers, low, high, 40)

    def test_least_errors_by_points(self):
        # The least error on points is at most that on the interval.
        from nearcurves.pointfits import Points, nearest
        for function, powers in ((runge(), (0, 1, 2)), (poly_of("x^5 - x^2"), (1, 3)), (size_of_x(), (0, 1, 2, 3, 4))):
            found = self.holds(function, powers, -1, 1, 30)
            places = [Fraction(k, 20) for k in range(-20, 21)]
            points = Points([pair(place) for place in places], [pair(value_near(function, place)[0]) for place in places])
            least = fraction(nearest(points, powers).error)
            self.assertLessEqual(least, fraction(found.most))
            self.assertGreaterEqual(least * Fraction(11, 10), fraction(found.least))

    def test_facts(self):
        # On an interval within another one the least error is not greater; with more powers neither.
        wide = self.holds(runge(), (0, 1, 2), -2, 2, 30)
        for function, powers, low, high in ((runge(), (0, 1, 2), -1, 2), (runge(), (0, 1, 2), (1, 3), 1), (runge(), (0, 1, 2, 5), -2, 2)):
            self.assertLessEqual(fraction(self.holds(function, powers, low, high, 30).least), fraction(wide.most))
        # For the powers 0, .., n the errors at the points of a bar with n + 2 pairs have, nearly, unlike signs by turns.
        found = self.holds(mixed(exp_row()), (0, 1, 2), -1, 1, 20)
        self.assertEqual(len(found.bar.rows), 4)
        errors = [value_near(mixed(exp_row()), fraction(point))[0] - worth(found.poly, fraction(point)) for point, _ in found.bar.rows]
        self.assertTrue(all(one * other < 0 for one, other in zip(errors, errors[1:])))
        self.assertTrue(all(abs(abs(error) - fraction(found.most)) < Fraction(1, 2 ** 17) for error in errors))

    def test_polynomials_of_the_powers(self):
        for function, powers in ((poly_of("x^2 - 3*x^5"), (2, 5)), (poly_of("x^2 - 3*x^5"), (0, 2, 3, 5)), (Poly(()), (0, 1)), (Poly(()), (3,)),
                                 (mixed(power_row(2)), (0, 1, 2)), (Quotient(poly_of("x^3 + x"), poly_of("x^2 + 1")), (1,)),
                                 (Pieces((-1, 0, 1), (Poly((1, 2)), Poly((1, 2)))), (0, 1)), (Poly((5,)), (0,))):
            for bits in (0, 40):
                found = self.holds(function, powers, -1, 1, bits)
                self.assertEqual((found.least, found.most), ((0, 1), (0, 1)))
        found = self.holds_share(poly_of("x^2 + 1"), (0, 2), -1, 1, 30)
        self.assertEqual((found.least, found.most), ((0, 1), (0, 1)))

    def test_powers_without_0(self):
        for powers in ((1,), (1, 2), (2, 3, 12), (1, 3, 5, 6, 7)):
            for function in (poly_of("x^8 + 1"), mixed(cos_row()), poly_of("x - 3")):
                found = self.holds(function, powers, -1, (1, 2), 20)
                self.assertGreaterEqual(fraction(found.most), abs(value_near(function, Fraction(0))[0]))
                if function != poly_of("x - 3"):
                    self.assertLess(fraction(found.least), Fraction(2))

    def test_sizes(self):
        self.holds(wide_one(), tuple(range(6)), -4, 4, 24)
        self.holds(wide_one(), (0, 1, 3, 4, 7, 9), (-33, 17), 4, 24)
        quotient = Quotient(poly_of("1 + 1/3*x^12"), poly_of("1 + x + x^2 + 7*x^12"))
        self.holds(quotient, tuple(range(9)), -8, 8, 40)
        random = Random(81)
        low, high = pair(-fraction((random.randrange(10 ** 299, 10 ** 300), 10 ** 300))), (random.randrange(10 ** 299, 10 ** 300), 10 ** 299)
        self.holds(runge(), (0, 1, 2, 3, 5, 8), low, high, 40)
        self.holds(mixed(exp_row()), (0, 1, 2, 3), low, pair(fraction(high) / 7), 24)

    def test_any_value(self):
        function, powers = poly_of("x^2"), (0, 1)
        bar, half = Bar(0, ((-1, (1, 4)), (0, (-1, 2)), (1, (1, 4)))), Poly(((1, 2),))
        paper = enclosed_error(half, function, -1, 1, 5).paper
        self.assertIs(is_enclosed(function, powers, -1, 1, Enclosed(half, (1, 2), (1, 2), bar, paper)), True)
        self.assertIs(is_enclosed(function, powers, -1, 1, Enclosed(half, (2, 4), (3, 6), bar, paper)), True)
        self.assertIs(is_enclosed(function, [0, 1], -1, 1, Enclosed(half, (1, 2), (1, 2), Bar(0, list(bar.rows)), paper)), True)
        far = enclosed_error(Poly((5,)), function, -1, 1, 5)
        self.assertIs(is_enclosed(function, powers, -1, 1, Enclosed(Poly((5,)), (1, 2), far.most, bar, far.paper)), True)
        wrong = OTHERS + [Enclosed(None, None, None, None, None), Bar(0, ())]
        fields = [half, (1, 2), (1, 2), bar, paper]
        changes = [(0, ONE), (0, None), (0, half.numbers), (0, poly_of("x^2")), (1, (1, 3)), (1, (51, 100)), (1, None), (1, [1]), (1, True),
                   (2, (51, 100)), (2, (49, 100)), (2, None), (2, [1, 2, 1]), (2, -1), (3, None), (3, Bar(0, bar.rows[1:])), (3, Bar(1, bar.rows)),
                   (3, bar.rows), (4, None), (4, Paper(0, paper.under, paper.above)), (4, (paper,)), (4, far.paper)]
        wrong += [Enclosed(*fields[:place], value, *fields[place + 1:]) for place, value in changes]
        wrong += [Enclosed(*fields[:1], list(fields[1]), *fields[2:4], [paper])]
        for value in wrong:
            self.assertIs(is_enclosed(function, powers, -1, 1, value), False)
            self.assertIs(is_enclosed_share(function, powers, -1, 1, value), False)


class TestShares(Judging):
    def test_functions_of_all_kinds(self):
        for function, low, high, bits in (
            (mixed(exp_row()), -1, 1, 24), (Mixed(Poly(()), [(Poly((-1,)), exp_row())]), -1, 1, 24), (mixed(log_row()), (1, 100), (1, 2), 20),
            (mixed(power_row(3)), 0, 1, 40), (poly_of("x^4 + x + 3"), -1, 2, 40), (poly_of("-3 - x^2"), -1, 2, 40), (runge(), -3, 3, 40),
            (Quotient(ONE, poly_of("x - 2")), -3, 1, 40), (Pieces((-1, 0, 1), (Poly((1, -1)), Poly((1, 3)))), -1, 1, 30),
        ):
            for powers in ((0, 1, 2), (0, 2, 5), (1, 2), (1, 3), (0,)):
                self.holds_share(function, powers, low, high, bits)

    def test_known_ones(self):
        found = self.holds_share(poly_of("x + 2"), (0,), -1, 1, 30)
        self.assertTrue(fraction(found.least) <= Fraction(1, 2) <= fraction(found.most))
        found = self.holds_share(poly_of("x^2 + 1"), (1, 3), -1, 1, 30)
        self.assertEqual((found.poly, found.most, found.paper), (Poly(()), (1, 1), None))

    def test_most_1(self):
        function, bar = poly_of("x^2 + 1"), Bar(0, ((0, 1),))
        self.assertIs(is_enclosed_share(function, (1,), -1, 1, Enclosed(Poly(()), 1, 1, bar, None)), True)
        self.assertIs(is_enclosed_share(function, (1,), -1, 1, Enclosed(Poly(()), (2, 2), (3, 3), bar, None)), True)
        for poly, least, most, paper in ((Poly((0, 1)), 1, 1, None), (Poly(((1, 9),)), 1, 1, None), (Poly(()), 1, (9, 10), None), (Poly(()), 1, 2, None), (Poly(()), 0, 1, None),
                                         (Poly(()), 1, 1, Paper(0, None, None)), (Poly(()), 1, 1, ()), (Poly(()), 1, 0, None)):
            self.assertIs(is_enclosed_share(function, (1,), -1, 1, Enclosed(poly, least, most, bar, paper)), False)
        flat = Bar(0, ((-1, (-1, 2)), (1, (1, 2))))
        self.assertIs(is_enclosed_share(function, (0,), -1, 1, Enclosed(Poly(()), 0, 1, flat, None)), True)
        self.assertIs(is_enclosed_share(function, (0,), -1, 1, Enclosed(Poly(((1, 9),)), 0, 1, flat, None)), False)

    def test_one_thing_changed(self):
        function, powers = mixed(exp_row()), (0, 1)
        found = self.holds_share(function, powers, -1, 1, 10)
        fields = [found.poly, found.least, found.most, found.bar, found.paper]
        changes = [(0, found.poly + 1), (0, None), (0, poly_of("x^2")), (1, found.most), (1, None), (2, found.least), (2, 1), (2, 2), (2, -1), (2, None),
                   (3, None), (3, Bar(found.bar.terms + 1, found.bar.rows)), (3, Bar(1, found.bar.rows)), (4, None), (4, Paper(1, None, None)),
                   (4, Paper(0, None, None)), (4, (found.paper,)), (4, Paper(found.paper.terms, found.paper.under, found.paper.above))]
        for place, value in changes:
            told = Enclosed(*fields[:place], value, *fields[place + 1:])
            self.assertIs(is_enclosed_share(function, powers, -1, 1, told), False)
        self.assertIs(is_enclosed(function, powers, -1, 1, found), False)

    def test_poles(self):
        for function in (Poly((0, 1)), size_of_x(), mixed(sin_row()), Quotient(Poly((0, 1)), Poly((2, 1))), poly_of("x^4 - x^2 + 1/4"), Poly(())):
            with self.assertRaises(Pole):
                enclosed_share(function, (0, 1), -1, 1, 10)
            for value in OTHERS + [Enclosed(Poly(()), 1, 1, Bar(0, HALVES), None), Enclosed(Poly(()), 0, 0, Bar(9, HALVES), Paper(9, None, None))]:
                self.assertIs(is_enclosed_share(function, (0, 2), -1, 1, value), False)


class TestOneLess(Judging):
    def test_by_the_formula(self):
        random = Random(82)
        for degree in range(1, 13):
            for sign in (1, -1):
                poly = random_poly(random.randrange(10 ** 6), degree, random.choice((1, 20)))
                poly = poly if fraction(poly.lead()) * sign > 0 else -poly
                for low, high in ((-1, 1), (0, (7, 3)), ((-10 ** 59, 10 ** 60 - 1), (1, 10 ** 30))):
                    found = one_less(poly, low, high)
                    self.assertIsInstance(found, Nearer)
                    self.assertLess(found.poly.degree(), degree)
                    self.assertTrue(is_told_ratio(found.error))
                    quarter = (fraction(high) - fraction(low)) / 4
                    error = 2 * abs(fraction(poly.lead())) * quarter ** degree
                    self.assertEqual(fraction(found.error), error)
                    # By turns the error and its negative, at the ends; and the greatest one nowhere above it.
                    ends = [worth(found.poly - poly, fraction(end)) for end in (high, low)]
                    wanted = -error if fraction(poly.lead()) > 0 else error
                    self.assertEqual(ends, [wanted, wanted * (-1) ** degree])
                    if degree < 8:
                        most = enclosed_error(found.poly, poly, low, high, 60).most
                        self.assertTrue(error <= fraction(most) <= error + Fraction(1, 2 ** 60))

    def test_known_ones(self):
        found = one_less(poly_of("x^2"), -1, 1)
        self.assertEqual((found.poly, found.error), (Poly(((1, 2),)), (1, 2)))
        found = one_less(poly_of("5*x + 7"), [-2, 2], (6, 2))
        self.assertEqual((found.poly, found.error), (Poly((12,)), (10, 1)))
        found = one_less(poly_of("-4*x^3 + x^2"), -1, 1)
        self.assertEqual((found.poly, found.error), (poly_of("x^2 - 3*x"), (1, 1)))

    def test_errors_in_their_order(self):
        for low, high in NO_INTERVALS:
            self.bad_interval(low, high, one_less, ONE, low, high)
        self.bad("degree", 0, one_less, ONE, 0, 1)
        self.bad("degree", -1, one_less, Poly(()), 0, 1)


class TestLeastDegree(Judging):
    def holds(self, function, low, high, e, bits, most):
        found = least_degree(function, low, high, e, bits, most)
        if isinstance(found, NoDegree):
            behind = most + 1
        else:
            self.assertIsInstance(found, (LeastDegree, Unsure))
            self.assertIs(type(found.degree), int)
            self.assertTrue(0 <= found.degree <= most)
            behind = found.degree
        if behind == 0:
            self.assertIsNone(found.bar)
        else:
            number = self.number_by_sums(function, range(behind), low, high, found.bar)[0]
            self.assertGreater(number, fraction(e))
        if isinstance(found, LeastDegree):
            self.assertLessEqual(found.poly.degree(), found.degree)
            self.assertIs(shows(found.paper, found.poly, function, low, high, e), True)
        if isinstance(found, Unsure):
            near = enclosed(function, tuple(range(found.degree + 1)), low, high, min(60, bits + 8))
            gap = Fraction(1, 2 ** bits)
            self.assertLessEqual(fraction(near.least), fraction(e) + gap)
            self.assertGreaterEqual(fraction(near.most), fraction(e) - gap)
        return found

    def test_three_answers(self):
        function = mixed(exp_row())
        for e, bits, most, kind, degree in (
            ((1, 100), 24, 5, LeastDegree, 3), (2, 24, 5, LeastDegree, 0), ((1, 10 ** 5), 24, 5, NoDegree, None), (0, 24, 5, NoDegree, None),
            ((1, 3), 20, 1, LeastDegree, 1), ((1, 100), 24, 2, NoDegree, None), ((1, 100), 24, 3, LeastDegree, 3), (0, 3, 5, Unsure, None),
        ):
            found = self.holds(function, -1, 1, e, bits, most)
            self.assertIsInstance(found, kind)
            if degree is not None:
                self.assertEqual(found.degree, degree)

    def test_just_at_a_least_error(self):
        near = enclosed(mixed(exp_row()), (0, 1, 2), -1, 1, 24)
        for e in (near.least, near.most, pair((fraction(near.least) + fraction(near.most)) / 2)):
            for bits in (10, 20):
                self.holds(mixed(exp_row()), -1, 1, e, bits, 5)
        for e in ((1, 2), (1, 2 ** 7), (1, 2 ** 11)):
            for power in (2, 8, 12):
                self.holds(poly_of(f"x^{power}"), -1, 1, e, 30, 8)

    def test_exact_functions(self):
        poly = poly_of("x^8 - x")
        self.assertEqual(self.holds(poly, -1, 1, 0, 40, 8).degree, 8)
        self.assertIsInstance(self.holds(poly, -1, 1, 0, 40, 7), NoDegree)
        self.assertEqual(self.holds(Poly(()), -1, 1, 0, 40, 8).degree, 0)
        for e in ((1, 2), (1, 10), (1, 1000)):
            for function, low, high in ((runge(), -5, 5), (size_of_x(), -1, 1), (Quotient(-ONE, poly_of("x + 2")), -1, 3), (mixed(power_row(7)), -1, 1)):
                self.holds(function, low, high, e, 40, 8)

    def test_errors_in_their_order(self):
        pole, wide = Quotient(ONE, Poly((0, 1))), mixed(log_row())
        for low, high in NO_INTERVALS:
            self.bad_interval(low, high, least_degree, wide, low, high, -1, -1, -1)
        self.bad_interval(-1, 2, least_degree, size_of_x(), -1, 2, -1, -1, -1)
        with self.assertRaises(Pole):
            least_degree(pole, -1, 1, -1, -1, -1)
        for e in NO_RATIOS + [-1, (-1, 10 ** 60), [-3, 2]]:
            self.bad("e", e, least_degree, wide, -1, 1, e, -1, -1)
        for bits in NO_BITS:
            self.bad("bits", bits, least_degree, wide, -1, 1, 0, bits, -1)
        for most in (-1, 13, 10 ** 30, True, False, None, "1", 1.0, (1, 1), [], ONE):
            self.bad("most", most, least_degree, wide, -1, 1, 0, 0, most)
        with self.assertRaises(TooWide):
            least_degree(wide, -1, 1, 0, 0, 0)


class TestObjects(Asking):
    def test_they_keep_what_they_are_given(self):
        self.keep_what_they_are_given({
            Bar: ("terms", "rows"), Enclosed: ("poly", "least", "most", "bar", "paper"), Nearer: ("poly", "error"),
            LeastDegree: ("degree", "poly", "paper", "bar"), NoDegree: ("bar",), Unsure: ("degree", "bar"),
        })

    def test_they_are_defined_here(self):
        self.are_defined_in(intervalfits, "Bar", "bar_number", "bar_share", "Enclosed", "enclosed", "enclosed_share", "is_enclosed",
                            "is_enclosed_share", "Nearer", "one_less", "LeastDegree", "NoDegree", "Unsure", "least_degree")

    def test_equal_calls_and_arguments(self):
        powers, low = [0, 2], [-4, 4]
        one, other = enclosed(runge(), powers, low, 2, 20), enclosed(runge(), (0, 2), -1, 2, 20)
        self.assertEqual((one.poly, one.least, one.most, one.bar.rows), (other.poly, other.least, other.most, other.bar.rows))
        self.assertEqual((powers, low), ([0, 2], [-4, 4]))


class TestHard(Judging):
    """Bars with few points, flat errors, steep functions and great or narrow intervals."""

    def test_hard_ones(self):
        steep = Pieces((-1, 0, (1, 10 ** 12), 1), (Poly(()), Poly((0, 10 ** 12)), ONE))
        for function, powers, low, high, bits in (
            (poly_of("x^8 + 1"), (1, 3, 5, 6, 7), -1, 1, 40), (poly_of("x^11 + 1"), (1, 3, 4, 6, 7, 8), -2, (7, 5), 40),
            (steep, (0, 1, 2), -1, 1, 20), (Quotient(ONE, poly_of("1/1000000 + x")), (0, 1), 0, 1, 40),
            (poly_of("x^3"), (0, 1, 2), -10 ** 6, 10 ** 6, 10), (runge(), (0, 1, 2, 3), (10 ** 20, 10 ** 20), (10 ** 20 + 1, 10 ** 20), 40),
            (Quotient(Poly((10 ** 30,)), poly_of("x^2 + 1")), (0, 1, 2), -1, 1, 10),
        ):
            self.holds(function, powers, low, high, bits)

    def test_drawn_ones(self):
        random = Random(83)
        for _ in range(25):
            function = random_poly(random.randrange(10 ** 6), random.randrange(1, 12), 3)
            if random.random() < 0.5:
                bottom = random_poly(random.randrange(10 ** 6), 2, 1)
                function = Quotient(function, bottom * bottom + 1)
            powers = tuple(sorted(random.sample(range(13), random.randrange(1, 8))))
            low, high = random.choice(((-1, 1), (0, (7, 3)), ((1, 3), 2), (-2, random_ratio(random, 1)[1])))
            bits = random.choice((0, 20, 40))
            self.holds(function, powers, low, high, bits)
            try:
                self.holds_share(function, powers, low, high, bits)
            except Pole:
                pass


if __name__ == "__main__":
    unittest.main()
