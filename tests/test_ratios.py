"""Promise [4]."""

import unittest
from fractions import Fraction
from itertools import product
from random import Random

from helping import NO_RATIOS, Asking, fraction, pair, random_ratio

from nearcurves import ratios
from nearcurves.ratios import (floor_of, is_ratio, lower, minus, nearest_whole, plus, ratio_text, share, times, told)

LONG = 10 ** 60 - 1
RATIOS = [
    0, 1, -1, 7, -12, (0, 1), (0, 9), [0, 5], (1, 2), (-1, 2), [2, 4], (-6, 4), (3, 3), [-8, 2], (7, 3), (-7, 3), (5, 2),
    [-5, 2], (LONG, LONG - 2), (-LONG, 6), (1, LONG), [2 * LONG, 4 * LONG], 10 ** 200, (-10 ** 200, 10 ** 199 + 1),
]
PAIRS_OF_RATIOS = {plus: Fraction.__add__, minus: Fraction.__sub__, times: Fraction.__mul__, share: Fraction.__truediv__}


class TestIsRatio(Asking):
    def test_what_is_one(self):
        for value in RATIOS:
            self.assertIs(is_ratio(value), True, value)

    def test_what_is_none(self):
        for value in NO_RATIOS:
            self.assertIs(is_ratio(value), False, value)

    def test_a_list_within_itself(self):
        knot = [1, 2]
        knot[0] = knot
        self.assertIs(is_ratio(knot), False)
        self.assertIs(is_ratio((1, knot)), False)

    def test_bottoms(self):
        for bottom in range(-5, 6):
            for kind in (tuple, list):
                self.assertIs(is_ratio(kind([3, bottom])), bottom > 0)


class TestTold(Asking):
    def test_lowest_terms(self):
        self.assertEqual(told(5, "a"), (5, 1))
        self.assertEqual(told(0, "a"), (0, 1))
        self.assertEqual(told((0, 7), "a"), (0, 1))
        self.assertEqual(told((6, 4), "a"), (3, 2))
        self.assertEqual(told([-6, 4], "a"), (-3, 2))
        self.assertEqual(told([-6, 3], "a"), (-2, 1))
        self.assertEqual(told((2 * LONG, 4 * LONG), "a"), (1, 2))

    def test_it_is_a_pair(self):
        for value in RATIOS:
            result = told(value, "a")
            self.assertIs(type(result), tuple)
            self.assertEqual(result, pair(fraction(value)))

    def test_wrong_values_with_the_word(self):
        for value in NO_RATIOS:
            for what in ("ratio", "bits", "", 12):
                self.bad(what, value, told, value, what)

    def test_what_is_handed_in_stays_as_it_was(self):
        value = [6, 4]
        told(value, "a")
        self.assertEqual(value, [6, 4])


class TestSums(Asking):
    def test_all_pairs(self):
        for one, other in product(RATIOS, RATIOS):
            for function, right in PAIRS_OF_RATIOS.items():
                if function is share and fraction(other) == 0:
                    continue
                result = function(one, other)
                self.assertIs(type(result), tuple)
                self.assertEqual(result, pair(right(fraction(one), fraction(other))))
            self.assertIs(lower(one, other), fraction(one) < fraction(other))

    def test_long_ratios(self):
        random = Random(4)
        for _ in range(200):
            one, other = random_ratio(random, 90), random_ratio(random, 90)
            self.assertEqual(plus(one, other), pair(fraction(one) + fraction(other)))
            self.assertEqual(minus(one, other), pair(fraction(one) - fraction(other)))
            self.assertEqual(times(one, other), pair(fraction(one) * fraction(other)))
            self.assertEqual(share(one, other), pair(fraction(one) / fraction(other)))
            self.assertIs(lower(one, other), fraction(one) < fraction(other))

    def test_some_by_hand(self):
        self.assertEqual(plus((1, 2), (1, 3)), (5, 6))
        self.assertEqual(plus((1, 2), [2, 4]), (1, 1))
        self.assertEqual(minus(1, (3, 2)), (-1, 2))
        self.assertEqual(times((-2, 3), [3, 4]), (-1, 2))
        self.assertEqual(share(1, -2), (-1, 2))
        self.assertEqual(share((1, 2), (-3, 4)), (-2, 3))
        self.assertEqual(share(0, -7), (0, 1))
        self.assertIs(lower((1, 2), (2, 4)), False)
        self.assertIs(lower((-1, 2), (-1, 3)), True)

    def test_wrong_values_the_first_one_first(self):
        for function in (plus, minus, times, share, lower):
            for value in NO_RATIOS:
                for good in (0, (1, 2), [-3, 4]):
                    self.bad("ratio", value, function, value, good)
                    self.bad("ratio", value, function, good, value)
                self.bad("ratio", value, function, value, None)
                self.bad("ratio", "first", function, "first", value)

    def test_divisor_0(self):
        for zero in (0, (0, 1), (0, 12), [0, 3]):
            for one in RATIOS:
                self.bad("divisor", zero, share, one, zero)
            for value in NO_RATIOS:
                self.bad("ratio", value, share, value, zero)

    def test_what_is_handed_in_stays_as_it_was(self):
        one, other = [6, 4], [-9, 6]
        for function in (plus, minus, times, share, lower):
            function(one, other)
            self.assertEqual((one, other), ([6, 4], [-9, 6]))


class TestRounding(Asking):
    def test_floors(self):
        for value, floor in ((7, 7), (-7, -7), ((7, 2), 3), ((-7, 2), -4), ([1, 3], 0), ((-1, 3), -1), ((8, 4), 2),
                             ((-8, 4), -2), ((0, 3), 0)):
            self.assertEqual(floor_of(value), floor)

    def test_nearest(self):
        for value, nearest in ((7, 7), (-7, -7), ((1, 2), 1), ((-1, 2), 0), ((3, 2), 2), ((-3, 2), -1), ([2, 4], 1),
                               ((-6, 4), -1), ((1, 3), 0), ((2, 3), 1), ((-1, 3), 0), ((-2, 3), -1), ((49, 100), 0),
                               ((51, 100), 1), ((-51, 100), -1), ((-49, 100), 0), ((0, 3), 0), ((5, 2), 3), ((-5, 2), -2)):
            self.assertEqual(nearest_whole(value), nearest)

    def test_many(self):
        for value in RATIOS:
            number = fraction(value)
            self.assertEqual(floor_of(value), number.numerator // number.denominator)
            nearest = nearest_whole(value)
            self.assertIs(type(nearest), int)
            self.assertTrue(Fraction(-1, 2) < nearest - number <= Fraction(1, 2))

    def test_wrong_values(self):
        for value in NO_RATIOS:
            self.bad("ratio", value, floor_of, value)
            self.bad("ratio", value, nearest_whole, value)


class TestTexts(Asking):
    def test_texts(self):
        for value, text in ((0, "0"), ((0, 5), "0"), (12, "12"), (-12, "-12"), ((1, 2), "1/2"), ((-1, 2), "-1/2"),
                            ([6, 4], "3/2"), ((-6, 3), "-2"), ((LONG, 10), "9" * 60 + "/10"), (10, "10"), (-100, "-100")):
            self.assertEqual(ratio_text(value), text)

    def test_many(self):
        random = Random(5)
        for _ in range(200):
            value = random_ratio(random, random.randrange(1, 300))
            self.assertEqual(ratio_text(value), str(fraction(value)))

    def test_more_digits_than_python_tells_at_once(self):
        for digits in (63, 64, 65, 127, 128, 129, 4300, 4301, 9000):
            self.assertEqual(ratio_text(10 ** digits), "1" + "0" * digits)
            self.assertEqual(ratio_text((-10 ** digits + 1, 10 ** digits)), "-" + "9" * digits + "/1" + "0" * digits)

    def test_wrong_values(self):
        for value in NO_RATIOS:
            self.bad("ratio", value, ratio_text, value)


class TestInterface(unittest.TestCase):
    def test_each_is_defined_here(self):
        for name in ("is_ratio", "told", "plus", "minus", "times", "share", "lower", "floor_of", "nearest_whole",
                     "ratio_text"):
            self.assertEqual(getattr(ratios, name).__module__, "nearcurves.ratios")


if __name__ == "__main__":
    unittest.main()
