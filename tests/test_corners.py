"""Promises [10] and [11], and the sizes of [17]."""

import unittest
from fractions import Fraction
from math import comb
from random import Random

from checking import corners_by_sums, is_told_ratio, worth
from helping import NO_INTERVALS, NO_RATIOS, Asking, fraction, random_poly, random_ratio

from nearcurves.corners import corners, halved
from nearcurves.errors import BadRow
from nearcurves.polys import Poly

INTERVALS = [
    (0, 1), (-1, 1), ((-2, 4), [3, 6]), (5, (501, 100)), (-100, 100), ((1, 10 ** 59), (2, 10 ** 59)), (-10 ** 60, 10 ** 60),
    ((10 ** 60 - 1, 10 ** 60), 1),
]

def some_polys():
    random = Random(11)
    found = [Poly(()), Poly((3,)), Poly((0, 1)), Poly(((1, 2), (-7, 3)))]
    found += [random_poly(random.randrange(10 ** 6), degree, digits) for degree in range(9) for digits in (1, 30)]
    return found


def made_by(row, t):
    """The value at t of the polynomial with these corners on the interval from 0 to 1."""
    last = len(row) - 1
    return sum(fraction(item) * comb(last, k) * t ** k * (1 - t) ** (last - k) for k, item in enumerate(row))


class TestCorners(Asking):
    def test_they_make_the_polynomial(self):
        for poly in some_polys():
            for low, high in INTERVALS:
                least = max(0, poly.degree())
                for degree in (None, least, least + 1, least + 3):
                    row = corners(poly, low, high, degree)
                    self.assertEqual(len(row), (least if degree is None else degree) + 1)
                    self.assertTrue(type(row) is tuple and all(is_told_ratio(item) for item in row))
                    for t in range(len(row) + 1):
                        point = fraction(low) + (fraction(high) - fraction(low)) * t
                        self.assertEqual(made_by(row, t), worth(poly, point))

    def test_known_ones(self):
        self.assertEqual(corners(Poly((0, 0, 1)), -1, 1), ((1, 1), (-1, 1), (1, 1)))
        self.assertEqual(corners(Poly(()), -1, 1), ((0, 1),))
        self.assertEqual(corners(Poly(()), -1, 1, 2), ((0, 1),) * 3)
        self.assertEqual(corners(Poly((5,)), 0, 1), ((5, 1),))
        self.assertEqual(corners(Poly((0, 1)), 0, 1, degree=2), ((0, 1), (1, 2), (1, 1)))

    def test_the_greatest_degree(self):
        poly = random_poly(4, 12, 20)
        row = corners(poly, (-1, 3), (7, 2), 60)
        self.assertEqual([fraction(item) for item in row], corners_by_sums(poly, (-1, 3), (7, 2), 60))

    def test_sizes(self):
        random = Random(5)
        poly = random_poly(8, 30, 160)
        low, high = sorted([random_ratio(random, 160), random_ratio(random, 160)], key=fraction)
        row = corners(poly, low, high)
        self.assertEqual([fraction(item) for item in row], corners_by_sums(poly, low, high, 30))
        self.assertEqual(fraction(halved(row)[0][-1]), worth(poly, (fraction(low) + fraction(high)) / 2))

    def test_equal_calls_and_arguments(self):
        low, high, poly = [-2, 4], [2, 3], Poly((1, 2, 3))
        self.assertEqual(corners(poly, low, high), corners(poly, low, high))
        self.assertEqual((low, high, poly.numbers), ([-2, 4], [2, 3], ((1, 1), (2, 1), (3, 1))))

    def test_bad_intervals(self):
        for low, high in NO_INTERVALS:
            for degree in (None, -1, "x"):
                self.bad_interval(low, high, corners, Poly((1, 2)), low, high, degree)

    def test_bad_degrees(self):
        for degree in (-1, 1, 61, True, False, 2.0, "2", (2, 1), [], Poly(())):
            self.bad("degree", degree, corners, Poly((1, 2, 3)), 0, 1, degree)
        self.bad("degree", -1, corners, Poly(()), 0, 1, -1)
        self.assertEqual(len(corners(Poly(()), 0, 1, 0)), 1)
        self.assertEqual(len(corners(Poly((1, 2, 3)), 0, 1, 60)), 61)


class TestHalved(unittest.TestCase):
    def test_both_halves_make_the_polynomial(self):
        random = Random(12)
        for many in range(1, 10):
            for digits in (1, 40):
                row = [random_ratio(random, digits) for _ in range(many)]
                below, above = halved(row)
                for t in range(many + 1):
                    self.assertEqual(made_by(below, t), made_by(row, Fraction(t, 2)))
                    self.assertEqual(made_by(above, t), made_by(row, Fraction(t + 1, 2)))
                self.assertEqual([len(below), len(above)], [many, many])
                self.assertTrue(all(is_told_ratio(item) for item in below + above))

    def test_known_ones(self):
        self.assertEqual(halved((1, (-2, 2), [3, 3])), (((1, 1), (0, 1), (0, 1)), ((0, 1), (0, 1), (1, 1))))
        self.assertEqual(halved([[4, 6]]), (((2, 3),), ((2, 3),)))
        self.assertIs(type(halved([1, 2])), tuple)

    def test_lists_stay_as_they_are(self):
        row = [[2, 4], 3, (6, 3)]
        halved(row)
        self.assertEqual(row, [[2, 4], 3, (6, 3)])

    def test_bad_rows(self):
        values = [(), [], None, 1, True, "12", b"12", {1: 2}, {1}, range(3), Poly((1,)), ((1, 2), None), iter((1,))]
        values += [[1, value] for value in NO_RATIOS] + [(value, 1) for value in NO_RATIOS]
        for value in values:
            with self.assertRaises(BadRow) as caught:
                halved(value)
            self.assertIs(caught.exception.row, value)


if __name__ == "__main__":
    unittest.main()
