"""Promises [21] to [26]."""

import unittest
from fractions import Fraction
from random import Random

from checking import is_endless, is_told_ratio, row_numbers, sums_by_terms, tail_by_sum, value_near, worth
from helping import NO_BITS, NO_INTERVALS, NO_RATIOS, Asking, fraction, pair, random_poly, random_ratio

from nearcurves import functions
from nearcurves.errors import BadNumber, Fewer, Pole, TooWide, Unlike
from nearcurves.functions import Mixed, Pieces, Quotient, least_terms, slope_of, sums, tail, value
from nearcurves.polys import Poly, poly_of
from nearcurves.rows import Row, atan_row, cos_row, exp_row, log_row, power_row, powered, scaled, sin_row, terms_of

ONE = Poly((1,))
NO_WHOLES = [value for value in NO_RATIOS if not (isinstance(value, int) and not isinstance(value, bool))] + [(2, 1), [4, 2]]


def mixed(*rows):
    return Mixed(Poly(()), [(ONE, row) for row in rows])


def wide_one():
    """At the sizes of [26]: four parts, factors of degrees to 6."""
    rows = [exp_row(), scaled(atan_row(), (1, 12)), scaled(power_row((-5, 3)), (1, 20)), powered(sin_row(), 2)]
    factors = [Poly((0, 1, (1, 3), 4, 5, 6, 7)), Poly((1, 1)), Poly((3, (1, 7))), ONE]
    return Mixed(Poly((1, 2)), list(zip(factors, rows)))


def late_row():
    """A row that is narrow from 199 on for r = 1."""
    return Row(1, Poly((100, 1)), Poly((1, 3)), 1, 0)


class TestMaking(Asking):
    def test_mixed(self):
        row, poly = exp_row(), Poly((1, 2))
        parts = [(ONE, row), [poly, row]]
        function = Mixed(poly, parts)
        parts[1][0] = None
        parts.append(None)
        self.assertIs(function.poly, poly)
        self.assertEqual(len(function.parts), 2)
        self.assertTrue(all(type(part) is tuple for part in (function.parts,) + function.parts))
        self.assertIs(function.parts[1][0], poly)
        self.assertIs(function.parts[1][1], row)
        self.assertEqual(Mixed(poly, []).parts, ())
        self.assertEqual(Mixed(poly, ()).parts, ())

    def test_quotient(self):
        top, bottom = Poly((1, 2)), Poly((3, 4))
        function = Quotient(top, bottom)
        self.assertIs(function.top, top)
        self.assertIs(function.bottom, bottom)
        self.bad_zero(lambda: Quotient(top, Poly(())))
        self.bad_zero(lambda: Quotient(Poly(()), Poly((0,))))

    def bad_zero(self, call):
        with self.assertRaises(BadNumber) as caught:
            call()
        self.assertEqual((caught.exception.what, caught.exception.number), ("bottom", 0))

    def test_pieces(self):
        knots, polys = [[-2, 2], 0, (2, 4)], [Poly((0, -1)), Poly((0, 1))]
        function = Pieces(knots, polys)
        knots[0][0] = 7
        polys.append(None)
        self.assertEqual(function.knots, ((-1, 1), (0, 1), (1, 2)))
        self.assertEqual(function.polys, (Poly((0, -1)), Poly((0, 1))))
        self.assertIs(type(function.polys), tuple)

    def test_bad_knots(self):
        values = [(), [], (1,), (0, 0), (1, 0), (0, 1, 1), (0, 2, (3, 2)), None, 1, True, "01", {0: 1}, {0, 1}, range(2), ONE]
        values += [(0, value) for value in NO_RATIOS] + [[value, 10 ** 9] for value in NO_RATIOS]
        for knots in values:
            for polys in ([ONE], [], [ONE, Poly((2,))]):
                self.bad_row(knots, Pieces, knots, polys)

    def test_unlike_pieces(self):
        for polys in ([], [ONE], [ONE, Poly((2,)), ONE]):
            with self.assertRaises(Unlike) as caught:
                Pieces((0, 1, 2), polys)
            self.assertEqual(caught.exception.what, "pieces")
        for polys in ([ONE, Poly((2,))], [Poly((0, 1)), Poly((0, 0, 1)) + (1, 10 ** 60)]):
            with self.assertRaises(Unlike) as caught:
                Pieces((0, 1, 2), polys)
            self.assertEqual(caught.exception.what, "knots")
        self.assertEqual(len(Pieces((0, 1, 2), [Poly((0, 1)), Poly((0, 0, 1))]).polys), 2)

    def test_they_are_not_compared_and_defined_here(self):
        self.assertNotEqual(Quotient(ONE, ONE), Quotient(ONE, ONE))
        self.are_defined_in(functions, "Mixed", "Quotient", "Pieces", "sums", "tail", "least_terms", "value", "slope_of")


def some_functions():
    found = [mixed(), mixed(exp_row()), mixed(sin_row(), cos_row()), mixed(power_row(4)), mixed(power_row(4), exp_row())]
    found.append(Mixed(Poly((1, (-2, 3))), [(Poly((0, 1, (5, 7))), exp_row()), (Poly((3,)), scaled(log_row(), (1, 20)))]))
    found.append(Mixed(Poly(()), [(Poly(()), exp_row()), (ONE, atan_row())]))
    found.append(Mixed(ONE, [(Poly((1, 1)), scaled(power_row((1, 2)), (-1, 9))), (ONE, Row(0, ONE, ONE, 1, 0))]))
    found.append(wide_one())
    return found


class TestSums(Asking):
    def test_sums(self):
        for function in some_functions():
            for terms in (0, 1, 2, 7):
                self.assertEqual(sums(function, terms), sums_by_terms(function, terms))
        self.assertEqual(sums(wide_one(), 10), sums_by_terms(wide_one(), 10))
        poly = Poly((1, 2, 3))
        self.assertEqual(sums(poly, 0), poly)

    def test_bad_terms(self):
        for terms in NO_WHOLES + [-1]:
            for function in (mixed(exp_row()), Poly((1, 2)), mixed(power_row(2))):
                self.bad("terms", terms, sums, function, terms)
                self.bad("terms", terms, tail, function, -1, 1, terms)

    def test_tail(self):
        for function in some_functions():
            for low, high in ((-1, (1, 2)), ((-1, 3), (1, 4)), ((1, 100), (1, 10))):
                for terms in (0, 3, 12, 30):
                    try:
                        told = tail(function, low, high, terms)
                    except (TooWide, Fewer):
                        continue
                    self.assertTrue(is_told_ratio(told))
                    self.assertEqual(fraction(told), tail_by_sum(function, low, high, terms))

    def test_narrow_rows(self):
        cases = [
            (log_row(), (1, 2), 0), (log_row(), (501, 1000), None), (log_row(), (1, 3), 0), (exp_row(), 8, 15), (exp_row(), 1, 1),
            (exp_row(), (3, 4), 1), (exp_row(), (1, 2), 0), (exp_row(), (7, 4), 3), (exp_row(), (15, 8), 3), (exp_row(), 2, 3),
            (sin_row(), 3, 1), (power_row((1, 2)), (1, 2), 0), (power_row((-7, 2)), (4, 10), 9), (power_row((-7, 2)), (1, 2), None),
            (late_row(), 1, 199), (Row(1, ONE, Poly((2,)), 1, 0), 1, 0), (Row(1, ONE, Poly((-2,)), 3, 0), (10 ** 30 + 1, 10 ** 30), None),
            (power_row(100), 8, 0), (Row(0, ONE, ONE, 1, 0), 8, 0),
        ]
        for row, size, start in cases:
            self.assertEqual(self.narrow_from(row, size), start)
            self.narrow_as_told(row, size, start)
        # Not narrow far out, but narrow nearer: the last place counts.
        bent = Row(1, Poly((3,)), Poly((-21, 10, -1)) * (-1, 1) + (1, 2), 1, 0)
        start = self.narrow_from(bent, 1)
        self.narrow_as_told(bent, 1, start)
        self.assertEqual(start, 9)

    def narrow_as_told(self, row, size, start):
        if terms_of(row) is not None:
            return
        last = 10 ** 6 if start is None else start - 1
        if start != 0:
            top, bottom = worth(row.top, Fraction(last)), worth(row.bottom, Fraction(last))
            self.assertGreater(2 * abs(top) * fraction(size) ** row.step, abs(bottom))
        for k in range(start if start is not None else 0, 220):
            top, bottom = worth(row.top, Fraction(k)), worth(row.bottom, Fraction(k))
            if start is not None:
                self.assertLessEqual(2 * abs(top) * fraction(size) ** row.step, abs(bottom))

    def narrow_from(self, row, size):
        """The least terms for which tail tells a ratio; None if the row is too wide."""
        function, low = mixed(row), pair(-fraction(size))
        for terms in range(220):
            try:
                tail(function, low, (0, 1), terms)
                return terms
            except Fewer as caught:
                self.assertEqual(caught.what, "terms")
            except TooWide:
                return None

    def test_atan_at_the_end(self):
        # r * r is 1 / 2 nowhere at a ratio; just below and just above:
        near = Fraction(70710678118654752440, 10 ** 20)
        self.assertEqual(self.narrow_from(atan_row(), pair(near)), 0)
        self.assertIsNone(self.narrow_from(atan_row(), pair(near + Fraction(1, 10 ** 20))))
        self.assertEqual(self.narrow_from(powered(log_row(), 2), pair(near)), 0)
        self.assertEqual(self.narrow_from(scaled(log_row(), (1, 2)), 1), 0)

    def test_errors_in_their_order(self):
        for low, high in NO_INTERVALS:
            for function in (mixed(log_row()), Poly((1,))):
                self.bad_interval(low, high, tail, function, low, high, -1)
                self.bad_interval(low, high, least_terms, function, low, high, -1)
        for bits in NO_BITS:
            for function in (mixed(log_row()), Poly((1,))):
                self.bad("bits", bits, least_terms, function, -1, 1, bits)
        self.bad("terms", -1, tail, mixed(log_row()), -1, 1, -1)
        for function in (mixed(log_row()), mixed(exp_row(), log_row()), mixed(late_row(), log_row())):
            with self.assertRaises(TooWide):
                tail(function, -1, 1, 0)
            with self.assertRaises(TooWide):
                least_terms(function, -1, 1, 5)
        with self.assertRaises(Fewer):
            tail(mixed(late_row()), -1, 1, 198)
        with self.assertRaises(TooWide):
            tail(Mixed(ONE, [(Poly(()), log_row())]), -1, 1, 5)

    def test_least_terms(self):
        for function in some_functions():
            for low, high in ((-1, (1, 2)), ((1, 100), (1, 10)), (-4, 4)):
                for bits in (0, 10, 60):
                    try:
                        terms = least_terms(function, low, high, bits)
                    except TooWide:
                        continue
                    if not is_endless(function):
                        self.assertEqual(terms, 0)
                        continue
                    self.assertLessEqual(fraction(tail(function, low, high, terms)), Fraction(1, 2 ** bits))
                    if terms > 0:
                        try:
                            self.assertGreater(fraction(tail(function, low, high, terms - 1)), Fraction(1, 2 ** bits))
                        except Fewer:
                            pass
        self.assertEqual(least_terms(mixed(late_row()), -1, 1, 0), 199 + self.more_terms(late_row()))

    def more_terms(self, row):
        numbers = row_numbers(row, 400)
        return [k for k in range(199, 400) if 2 * abs(numbers[k]) <= 1][0] - 199

    def test_polys(self):
        self.assertEqual(tail(Poly((1, 2)), -1, 1, 7), (0, 1))
        self.assertEqual(least_terms(Poly((1, 2)), -100, 100, 60), 0)

    def test_sizes(self):
        function = wide_one()
        self.assertEqual(least_terms(function, -4, 4, 60), 40)
        self.assertEqual(fraction(tail(function, -4, 4, 40)), tail_by_sum(function, -4, 4, 40))
        self.assertEqual(sums(function, 10), sums_by_terms(function, 10))
        low, high = (-10 ** 59 * 3 - 1, 10 ** 59), (10 ** 59 * 3 + 77, 10 ** 59 + 1)
        self.assertEqual(fraction(tail(function, low, high, 30)), tail_by_sum(function, low, high, 30))


class TestValue(Asking):
    def near(self, function, point, bits):
        least, greatest = value(function, point, bits)
        self.assertTrue(is_told_ratio(least) and is_told_ratio(greatest))
        near, left = value_near(function, fraction(point))
        self.assertLessEqual(fraction(greatest) - fraction(least), Fraction(1, 2 ** bits))
        self.assertLessEqual(fraction(least), near + left)
        self.assertGreaterEqual(fraction(greatest), near - left)
        return least, greatest

    def just(self, function, point, number):
        for bits in (0, 60):
            self.assertEqual(value(function, point, bits), (pair(number), pair(number)))

    def test_exact_ones(self):
        random = Random(41)
        for _ in range(20):
            point = random_ratio(random, 5)
            poly = random_poly(random.randrange(10 ** 6), 6, 20)
            self.just(poly, point, worth(poly, fraction(point)))
            bottom = poly_of("x^2 + 1")
            self.just(Quotient(poly, bottom), point, worth(poly, fraction(point)) / worth(bottom, fraction(point)))
            self.just(Mixed(poly, [(poly, power_row(3))]), point, worth(poly, fraction(point)) * (1 + (1 + fraction(point)) ** 3))
        self.just(Mixed(Poly(()), []), 7, 0)
        self.just(Quotient(Poly(()), ONE), [4, 6], 0)

    def test_pieces(self):
        function = Pieces((-2, (1, 3), 1), (Poly((0, -3)), Poly((-2, 3))))
        for point in (-2, 0, (1, 3), (2, 3), 1):
            number = -3 * fraction(point) if fraction(point) < Fraction(1, 3) else 3 * fraction(point) - 2
            self.just(function, point, number)
        for point in ((-2000001, 1000000), 2, (10 ** 60 + 1, 10 ** 60)):
            for bits in (5, -1):
                self.bad("point", point, value, function, point, bits)

    def test_at_0(self):
        self.just(mixed(exp_row()), 0, 1)
        self.just(mixed(sin_row()), 0, 0)
        self.just(mixed(log_row(), cos_row()), (0, 7), 1)
        self.just(Mixed(Poly((5, 1)), [(Poly((2, 3)), exp_row()), (ONE, Row((7, 2), Poly((9, 0, 1)), ONE, 1, 0))]), 0, Fraction(21, 2))

    def test_endless_rows(self):
        for bits in (0, 1, 30, 60):
            for point in ((1, 2), (-3, 10), [2, 6], (10 ** 59, 3 * 10 ** 59 + 1)):
                for function in (mixed(exp_row()), mixed(log_row(), sin_row()), mixed(atan_row(), power_row((1, 3))), wide_one()):
                    self.near(function, point, bits)
        self.near(wide_one(), (-7, 2), 60)

    def test_errors_in_their_order(self):
        for function in (ONE, mixed(log_row()), Quotient(ONE, Poly((0, 1))), Pieces((0, 1), (ONE,))):
            for point in NO_RATIOS:
                self.bad("point", point, value, function, point, -1)
            for bits in NO_BITS:
                self.bad("bits", bits, value, function, 0, bits)
        with self.assertRaises(Pole):
            value(Quotient(ONE, Poly((-1, 2))), (2, 4), 0)
        with self.assertRaises(Pole):
            value(Quotient(Poly((0, 1)), Poly((0, 1))), 0, 0)
        for point in (1, -1, (501, 1000), (-501, 1000)):
            with self.assertRaises(TooWide):
                value(mixed(exp_row(), log_row()), point, 0)
        self.near(mixed(exp_row(), log_row()), (1, 2), 60)


class TestSlope(unittest.TestCase):
    def test_polys_and_quotients(self):
        poly = poly_of("1 - 3/2*x + x^3")
        self.assertEqual(slope_of(poly), poly.slope())
        self.assertEqual(slope_of(Poly((3,))), Poly(()))
        function = Quotient(poly, poly_of("x^2 + 2"))
        told = slope_of(function)
        self.assertIsInstance(told, Quotient)
        for point in (Fraction(0), Fraction(3, 2), Fraction(-7)):
            top, bottom = function.top, function.bottom
            wanted = worth(top.slope(), point) * worth(bottom, point) - worth(top, point) * worth(bottom.slope(), point)
            wanted = wanted / worth(bottom, point) ** 2
            self.assertEqual(worth(told.top, point) / worth(told.bottom, point), wanted)

    def test_pieces(self):
        told = slope_of(Pieces((-1, 0, 1), (Poly((0, 0, -1)), Poly((0, 0, 3)))))
        self.assertIsInstance(told, Pieces)
        self.assertEqual(told.knots, ((-1, 1), (0, 1), (1, 1)))
        self.assertEqual(told.polys, (Poly((0, -2)), Poly((0, 6))))
        with self.assertRaises(Unlike) as caught:
            slope_of(Pieces((-1, 0, 1), (Poly((0, -1)), Poly((0, 1)))))
        self.assertEqual(caught.exception.what, "knots")

    def test_mixed_ones(self):
        for function in some_functions():
            told = slope_of(function)
            self.assertIsInstance(told, Mixed)
            # Numbers of the same powers, up to one that all of these terms reach.
            whole, slopes = sums_by_terms(function, 12).slope(), sums_by_terms(told, 12)
            if not is_endless(function):
                self.assertEqual(whole, slopes)
            self.assertEqual(whole.numbers[:9], slopes.numbers[:9])

    def test_slopes_of_slopes(self):
        told = slope_of(slope_of(Mixed(Poly((1, 2, 3)), [(Poly((0, 1)), sin_row()), (ONE, cos_row())])))
        wanted = sums_by_terms(Mixed(Poly((1, 2, 3)), [(Poly((0, 1)), sin_row()), (ONE, cos_row())]), 12).slope().slope()
        self.assertEqual(sums_by_terms(told, 12).numbers[:15], wanted.numbers[:15])
        least, greatest = value(slope_of(mixed(exp_row())), (1, 2), 50)
        again = value(mixed(exp_row()), (1, 2), 50)
        self.assertLess(abs(fraction(least) - fraction(again[0])), Fraction(1, 2 ** 49))


if __name__ == "__main__":
    unittest.main()
