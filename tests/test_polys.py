"""Promises [5] and [6], and the sizes of [9]."""

import unittest
from fractions import Fraction
from random import Random

from helping import NO_RATIOS, Asking, fraction, pair, power_of, random_poly, random_ratio

from nearcurves import polys
from nearcurves.errors import BadRow
from nearcurves.polys import Poly

METHODS = (
    "__init__", "__eq__", "__add__", "__radd__", "__sub__", "__rsub__", "__mul__", "__rmul__", "__neg__", "degree", "lead",
    "at", "slope", "moved",
)


def fractions_of(poly):
    return [Fraction(*number) for number in poly.numbers]


def value_at(poly, point):
    return sum(number * point ** power for power, number in enumerate(fractions_of(poly)))


def some_polys():
    small = [(), (0,), (1,), (-1,), (0, 1), (1, 1), (-1, 1), (0, 0, 3), ((1, 2), (-1, 3)), (4, 0, (-5, 7), 0, 1)]
    long = [random_poly(seed, degree, 60) for seed, degree in enumerate((0, 1, 2, 5, 12))]
    return [Poly(numbers) for numbers in small] + long


class TestMaking(unittest.TestCase):
    def test_numbers_are_told_as_pairs(self):
        self.assertEqual(Poly((1, (2, 4), [-6, 4])).numbers, ((1, 1), (1, 2), (-3, 2)))
        self.assertEqual(Poly([(1, 2), 0, 5]).numbers, ((1, 2), (0, 1), (5, 1)))
        self.assertEqual(Poly((1, 2)).numbers, ((1, 1), (2, 1)))
        self.assertEqual(Poly([[1, 2]]).numbers, ((1, 2),))

    def test_numbers_end_with_the_degree(self):
        for zeros in ((), (0,), (0, (0, 7), [0, 1])):
            self.assertEqual(Poly(zeros).numbers, ())
            self.assertEqual(Poly(list(zeros)).numbers, ())
            self.assertEqual(Poly((0, 3) + zeros).numbers, ((0, 1), (3, 1)))
            self.assertEqual(Poly((2,) + zeros + (3,)).numbers, ((2, 1),) + ((0, 1),) * len(zeros) + ((3, 1),))

    def test_numbers_are_tuples(self):
        poly = Poly([[1, 2], 3])
        self.assertIs(type(poly.numbers), tuple)
        self.assertEqual([type(number) for number in poly.numbers], [tuple, tuple])

    def test_a_list_that_is_changed_later(self):
        inner = [1, 2]
        row = [inner, 3]
        poly = Poly(row)
        inner[0] = 7
        row[1] = 8
        row.append(9)
        self.assertEqual(poly.numbers, ((1, 2), (3, 1)))

    def test_what_is_handed_in_stays_as_it_was(self):
        row = [[2, 4], 0, (6, 3), 0]
        Poly(row)
        self.assertEqual(row, [[2, 4], 0, (6, 3), 0])

    def bad_row(self, row):
        with self.assertRaises(BadRow) as caught:
            Poly(row)
        self.assertIs(caught.exception.row, row)

    def test_no_rows(self):
        for value in (None, True, 0, 1, "", "12", b"12", {}, {1: 2}, {1}, range(3), 1.5, Poly((1,)), object(), int, iter(())):
            self.bad_row(value)

    def test_one_odd_item_anywhere(self):
        for value in NO_RATIOS:
            for place in range(3):
                row = [1, (2, 3), 0]
                row[place] = value
                self.bad_row(row)
                self.bad_row(tuple(row))
            self.bad_row((value,))

    def test_long_numbers(self):
        random = Random(6)
        row = [random_ratio(random, 90) for _ in range(13)]
        self.assertEqual(Poly(row).numbers, tuple(pair(fraction(number)) for number in row))


class TestEquality(unittest.TestCase):
    def test_by_numbers(self):
        self.assertTrue(Poly((1, (2, 4))) == Poly([[3, 3], (1, 2), 0]))
        self.assertFalse(Poly((1, (2, 4))) != Poly([1, (1, 2)]))
        self.assertTrue(Poly(()) == Poly((0, 0)))
        self.assertFalse(Poly((1, 2)) == Poly((1, 3)))
        self.assertTrue(Poly((1, 2)) != Poly((1, 2, 3)))
        self.assertFalse(Poly(()) == Poly((1,)))

    def test_only_with_a_poly(self):
        for other in (5, (5, 1), ((5, 1),), [5], None, "5", Poly, object()):
            self.assertIs(Poly((5,)) == other, False)
            self.assertIs(other == Poly((5,)), False)
            self.assertIs(Poly((5,)) != other, True)
        self.assertIs(Poly(()) == (), False)
        self.assertIs(Poly(()) == 0, False)


class TestSums(unittest.TestCase):
    def test_of_two_polys(self):
        for one in some_polys():
            for other in some_polys():
                left, right = fractions_of(one), fractions_of(other)
                many = max(len(left), len(right), 1)
                left_row = left + [Fraction(0)] * (many - len(left))
                right_row = right + [Fraction(0)] * (many - len(right))
                sums = [pair(a + b) for a, b in zip(left_row, right_row)]
                differences = [pair(a - b) for a, b in zip(left_row, right_row)]
                products = [Fraction(0)] * (2 * many)
                for at, a in enumerate(left):
                    for place, b in enumerate(right):
                        products[at + place] += a * b
                self.check(one + other, sums)
                self.check(one - other, differences)
                self.check(one * other, [pair(number) for number in products])

    def check(self, poly, numbers):
        while numbers and numbers[-1][0] == 0:
            numbers = numbers[:-1]
        self.assertIsInstance(poly, Poly)
        self.assertEqual(poly.numbers, tuple(numbers))

    def test_of_a_poly_and_a_ratio(self):
        for poly in some_polys():
            for value in (0, 1, -1, 7, (0, 3), (1, 2), (-4, 6), (10 ** 60 - 1, 10 ** 59), (6, 3)):
                alone = Poly((value,))
                self.assertEqual(poly + value, poly + alone)
                self.assertEqual(value + poly, poly + alone)
                self.assertEqual(poly - value, poly - alone)
                self.assertEqual(value - poly, alone - poly)
                self.assertEqual(poly * value, poly * alone)
                self.assertEqual(value * poly, poly * alone)

    def test_some_by_hand(self):
        poly = Poly((1, 2))
        self.assertEqual((poly + (1, 2)).numbers, ((3, 2), (2, 1)))
        self.assertEqual(((1, 2) + poly).numbers, ((3, 2), (2, 1)))
        self.assertEqual((poly - 3).numbers, ((-2, 1), (2, 1)))
        self.assertEqual((3 - poly).numbers, ((2, 1), (-2, 1)))
        self.assertEqual(((2, 4) * poly).numbers, ((1, 2), (1, 1)))
        self.assertEqual((0 * poly).numbers, ())
        self.assertEqual((poly - poly).numbers, ())
        self.assertEqual((poly * poly).numbers, ((1, 1), (4, 1), (4, 1)))
        self.assertEqual((poly + Poly((0, -2))).numbers, ((1, 1),))

    def test_opposite(self):
        for poly in some_polys():
            self.assertEqual((-poly).numbers, tuple((-top, bottom) for top, bottom in poly.numbers))
            self.assertEqual(poly + -poly, Poly(()))

    def test_other_kinds_will_not_do(self):
        for value in (None, "1", True, 1.5, (1, 0), (1, -2), {}, Fraction(1, 2)):
            for action in (lambda a, b: a + b, lambda a, b: a - b, lambda a, b: a * b):
                self.assertRaises(TypeError, action, Poly((1, 2)), value)
                self.assertRaises(TypeError, action, value, Poly((1, 2)))

    def test_nothing_changes(self):
        one, other = Poly((1, 2, 3)), Poly(((1, 2), 5))
        for result in (one + other, one - other, one * other, -one, one + 1, 1 - one, one * (1, 2), one.slope(),
                       one.moved(1, 2)):
            self.assertIsNot(result, one)
        one.at(3)
        self.assertEqual(one.numbers, ((1, 1), (2, 1), (3, 1)))
        self.assertEqual(other.numbers, ((1, 2), (5, 1)))

    def test_products_to_degree_40(self):
        product = power_of(Poly(((1, 3), 1)), 40)
        self.assertEqual(product.degree(), 40)
        self.assertEqual(product.at((2, 3)), (1, 1))
        self.assertEqual(product.numbers[0], (1, 3 ** 40))
        long = power_of(random_poly(7, 10, 60), 4)
        self.assertEqual(long.degree(), 40)
        self.assertEqual(fraction(long.at((1, 7))), fraction(random_poly(7, 10, 60).at((1, 7))) ** 4)


class TestDegrees(unittest.TestCase):
    def test_degree_and_lead(self):
        for numbers, degree, lead in (((), -1, (0, 1)), ((0, 0), -1, (0, 1)), ((5,), 0, (5, 1)), ((0, (-2, 4)), 1, (-1, 2)),
                                      ((1, 2, 0), 1, (2, 1)), ((0,) * 12 + (7,), 12, (7, 1))):
            self.assertEqual(Poly(numbers).degree(), degree)
            self.assertEqual(Poly(numbers).lead(), lead)


class TestValues(Asking):
    def test_at(self):
        for poly in some_polys():
            for point in (0, 1, -1, (1, 2), (-3, 6), [9, 6], (10 ** 60 - 1, 10 ** 59 + 1), (0, 4), -100):
                result = poly.at(point)
                self.assertIs(type(result), tuple)
                self.assertEqual(result, pair(value_at(poly, fraction(point))))

    def test_at_by_hand(self):
        self.assertEqual(Poly((1, 2, 3)).at((1, 2)), (11, 4))
        self.assertEqual(Poly((1, 2, 3)).at([-2, 2]), (2, 1))
        self.assertEqual(Poly(()).at((1, 2)), (0, 1))
        self.assertEqual(Poly(((1, 2),)).at(9), (1, 2))

    def test_wrong_points(self):
        for value in NO_RATIOS:
            self.bad("point", value, Poly((1, 2)).at, value)
            self.bad("point", value, Poly(()).at, value)

    def test_slope(self):
        self.assertEqual(Poly((7, 5, (1, 2), (-1, 3))).slope().numbers, ((5, 1), (1, 1), (-1, 1)))
        self.assertEqual(Poly((0, 0, 0, 0, 1)).slope().numbers, ((0, 1), (0, 1), (0, 1), (4, 1)))
        self.assertEqual(Poly((7,)).slope().numbers, ())
        self.assertEqual(Poly(()).slope().numbers, ())

    def test_slopes_of_all(self):
        for poly in some_polys():
            numbers = [pair(power * number) for power, number in enumerate(fractions_of(poly))]
            self.assertEqual(poly.slope().numbers, tuple(numbers[1:]))


class TestMoved(Asking):
    def test_by_hand(self):
        self.assertEqual(Poly((1, 2, 3)).moved(1, 2).numbers, ((6, 1), (16, 1), (12, 1)))
        self.assertEqual(Poly((1, 2, 3)).moved((1, 2), [2, 6]).numbers, ((11, 4), (5, 3), (1, 3)))
        self.assertEqual(Poly((0, 1)).moved((-2, 4), -3).numbers, ((-1, 2), (-3, 1)))
        self.assertEqual(Poly(()).moved(1, 2).numbers, ())
        self.assertEqual(Poly((5,)).moved(1, 2).numbers, ((5, 1),))

    def test_step_0(self):
        for poly in some_polys():
            for start in (0, 2, (-5, 3)):
                self.assertEqual(poly.moved(start, 0), Poly((poly.at(start),)))
                self.assertEqual(poly.moved(start, (0, 3)), Poly((poly.at(start),)))

    def test_values(self):
        for poly in some_polys():
            for start, step in ((0, 1), (1, -1), ((1, 2), (1, 3)), ([-7, 6], (4, 10)), ((10 ** 60 - 1, 10 ** 59 + 1), (1, 77))):
                moved = poly.moved(start, step)
                self.assertIsInstance(moved, Poly)
                self.assertEqual(moved.degree(), poly.degree())
                for t in range(poly.degree() + 2):
                    self.assertEqual(moved.at(t), poly.at(pair(fraction(start) + t * fraction(step))))

    def test_wrong_numbers_the_first_one_first(self):
        for poly in (Poly((1, 2)), Poly(())):
            for value in NO_RATIOS:
                self.bad("start", value, poly.moved, value, 1)
                self.bad("step", value, poly.moved, 1, value)
                self.bad("start", value, poly.moved, value, None)


class TestInterface(unittest.TestCase):
    def test_each_is_defined_here(self):
        for name in ("Poly", "divided", "common", "simple_parts", "poly_of", "poly_text"):
            self.assertEqual(getattr(polys, name).__module__, "nearcurves.polys")

    def test_each_method_is_in_the_class(self):
        for name in METHODS:
            self.assertIn(name, vars(Poly))


if __name__ == "__main__":
    unittest.main()
