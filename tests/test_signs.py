"""Promises [12], [13] and [14], what [2] and [17] say of Split, Below and Floor, and sizes."""

import unittest
from fractions import Fraction
from random import Random

from checking import below_holds, is_told_ratio, product_of, split_holds, worth
from helping import NO_INTERVALS, NO_RATIOS, Asking, fraction, pair, power_of, random_poly, random_ratio

from nearcurves import signs
from nearcurves.polys import Poly, poly_of
from nearcurves.signs import Below, Floor, Split, is_split, never_below

INTERVALS = [(0, 1), (-1, 1), ((-3, 2), [7, 3]), (-100, 100), ((14142, 10000), (14143, 10000)), ((1, 10 ** 59), (2, 10 ** 59))]


def tiny(digits, sign=1):
    return (sign, 10 ** digits)


class TestNeverBelow(Asking):
    def holds(self, poly, low, high):
        """That poly is from 0 on."""
        found = never_below(poly, low, high)
        self.assertIsInstance(found, Split)
        self.assertTrue(split_holds(poly, low, high, found))
        self.assertTrue(all(is_told_ratio(cut) for cut in found.cuts))
        self.assertIs(is_split(poly, low, high, found), True)

    def fails(self, poly, low, high):
        found = never_below(poly, low, high)
        self.assertIsInstance(found, Below)
        self.assertTrue(below_holds(poly, low, high, found))
        self.assertTrue(is_told_ratio(found.number))

    def test_constants(self):
        for low, high in INTERVALS:
            self.holds(Poly(()), low, high)
            self.holds(Poly((3,)), low, high)
            self.holds(Poly((tiny(60),)), low, high)
            self.fails(Poly((-3,)), low, high)
            self.fails(Poly((tiny(60, -1),)), low, high)

    def test_planted_zeros(self):
        for low, high in INTERVALS:
            middle = pair((fraction(low) + 2 * fraction(high)) / 3)
            for zero in (low, high, middle):
                line = Poly((0, 1)) - Poly((zero,))
                self.holds(line * line, low, high)
                self.fails(-line * line, low, high)
                self.holds(power_of(line, 4), low, high)
                self.holds(line * line * Poly((1, 0, 1)), low, high)
            self.fails(Poly((0, 1)) - Poly((middle,)), low, high)
            self.fails(Poly((middle,)) - Poly((0, 1)), low, high)
            self.holds(Poly((0, 1)) - Poly((low,)), low, high)
            self.holds(Poly((high,)) - Poly((0, 1)), low, high)
            self.holds((Poly((0, 1)) - Poly((low,))) * (Poly((high,)) - Poly((0, 1))), low, high)
            self.fails((Poly((0, 1)) - Poly((low,))) * (Poly((0, 1)) - Poly((high,))), low, high)
            self.fails(power_of(Poly((0, 1)) - Poly((middle,)), 3), low, high)

    def test_a_rest_below_0_at_a_zero_of_the_root(self):
        # The first middle is 0, where the root is 0 and the rest is below 0.
        self.fails(Poly((0, 0, -1)), -1, 1)
        self.fails(Poly((0, 0, -1, 1)), -1, 1)
        self.fails(power_of(Poly((0, 1)), 4) * Poly(((1, 1000), -1, 1)) * -1, -1, 1)

    def test_touching_at_what_is_no_ratio(self):
        touching = poly_of("x^4 - 4*x^2 + 4")
        for many in (1, 2, 3):
            poly = power_of(touching, many)
            for low, high in ((-2, 2), (1, 2), (0, (14143, 10000))):
                self.holds(poly, low, high)
                for digits in (1, 6, 12, 30, 100):
                    self.holds(poly + tiny(digits), low, high)
                    self.fails(poly - tiny(digits), low, high)

    def test_crossing_at_what_is_no_ratio(self):
        poly = poly_of("x^2 - 2")
        self.fails(poly, 0, 2)
        self.fails(poly, (14142, 10000), 2)
        self.holds(poly, (14143, 10000), 2)
        self.holds(-poly, 0, (14142, 10000))
        self.fails(power_of(poly, 3), 0, 2)

    def test_sums_of_squares_with_factors_of_the_ends(self):
        random = Random(14)
        for low, high in INTERVALS[:5]:
            for _ in range(6):
                degree = random.randrange(1, 5)
                poly = Poly(())
                for _ in range(3):
                    square = random_poly(random.randrange(10 ** 6), degree, random.choice((1, 10)))
                    poly = poly + square * square * Poly(((random.randrange(0, 5), random.randrange(1, 9)),))
                ends = power_of(Poly((0, 1)) - Poly((low,)), random.randrange(3))
                ends = ends * power_of(Poly((high,)) - Poly((0, 1)), random.randrange(3))
                self.holds(poly * ends, low, high)

    def test_drawn_ones(self):
        random = Random(15)
        for _ in range(150):
            poly = random_poly(random.randrange(10 ** 6), random.randrange(0, 9), random.choice((1, 2, 20)))
            low, high = random.choice(INTERVALS)
            found = never_below(poly, low, high)
            if isinstance(found, Split):
                self.assertTrue(split_holds(poly, low, high, found))
            else:
                self.assertTrue(below_holds(poly, low, high, found))

    def test_sizes(self):
        random = Random(16)
        low, high = sorted([random_ratio(random, 60), random_ratio(random, 60)], key=fraction)
        square = random_poly(9, 15, 80)
        self.holds(square * square, -100, 100)
        self.fails(square * square - tiny(160), -100, 100)
        self.holds(random_poly(10, 14, 60) * random_poly(10, 14, 60) + tiny(100), low, high)
        poly = random_poly(11, 30, 160)
        found = never_below(poly, low, high)
        self.assertTrue((split_holds if isinstance(found, Split) else below_holds)(poly, low, high, found))

    def test_bad_intervals(self):
        for low, high in NO_INTERVALS:
            self.bad_interval(low, high, never_below, Poly((1,)), low, high)


class TestIsSplit(Asking):
    def test_right_ones(self):
        poly = poly_of("x^2 + 1")
        one = Poly((1,))
        self.assertIs(is_split(poly, -1, 1, Split(one, poly, ((0, 1),))), True)
        self.assertIs(is_split(poly, -1, 1, Split(one, poly, (0,))), True)
        self.assertIs(is_split(poly, -1, 1, Split(one, poly, [0])), True)
        self.assertIs(is_split(poly, -1, 1, Split(one, poly, ((-2, 4), 0, (3, 9), (1, 2)))), True)
        self.assertIs(is_split(poly, -1, 1, Split(Poly((2,)), poly * (1, 4), (0,))), True)
        self.assertIs(is_split(poly, -1, 1, Split(Poly((-1,)), poly, (0,))), True)
        self.assertIs(is_split(poly * 4, 0, 1, Split(Poly((2,)), poly, ())), True)
        self.assertIs(is_split(Poly(()), 0, 1, Split(Poly(()), poly, ())), True)
        self.assertIs(is_split(Poly(()), 0, 1, Split(poly, Poly(()), ((1, 2),))), True)

    def test_corners_below_0(self):
        poly = poly_of("x^2 - x + 1/3")
        # From 0 on, but the corners on the whole interval are not.
        poly = poly_of("x^2 + 1/3*x^0 - 1/3*x^0")
        self.assertIs(is_split(poly, -1, 1, Split(Poly((1,)), poly, ())), False)
        self.assertIs(is_split(poly, -1, 1, Split(Poly((1,)), poly, (0,))), True)
        self.assertIs(is_split(poly, -1, 1, Split(Poly((1,)), poly, ((1, 1000),))), False)
        self.assertIs(is_split(Poly((0, 1)), -1, 1, Split(Poly((1,)), Poly((0, 1)), (0,))), False)

    def test_one_thing_changed(self):
        low, high = -2, 2
        poly = poly_of("x^4 - 4*x^2 + 4") * poly_of("x^2 + 1/100") + tiny(6)
        split = never_below(poly, low, high)
        root, rest, cuts = split.root, split.rest, split.cuts
        self.assertGreater(len(cuts), 2)
        self.assertIs(is_split(poly, low, high, Split(root, rest, cuts)), True)
        wrong = [
            Split(root, rest, ()), Split(root, rest, cuts[::-1]), Split(root, rest, cuts + cuts[-1:]),
            Split(root, rest, (low,) + cuts), Split(root, rest, cuts + (high,)), Split(root, rest, (-3,) + cuts),
            Split(root, rest + tiny(50), cuts), Split(root, -rest, cuts), Split(rest, root, cuts), Split(root * 2, rest, cuts),
            Split(root, rest.numbers, cuts), Split(root.numbers, rest, cuts), Split(1, rest, cuts), Split(root, rest, None),
            Split(root, rest, 5), Split(root, rest, {}), Split(None, None, None), Split(root, rest, cuts + (True,)),
            Below(root, rest), Floor(root, rest, cuts), (root, rest, cuts), [root, rest, cuts], None, True, 1, "split", Split,
        ]
        wrong += [Split(root, rest, tuple(list(cut) for cut in cuts))]
        wrong += [Split(root, rest, cuts[:1] + (value,) + cuts[1:]) for value in NO_RATIOS]
        for value in wrong:
            self.assertIs(is_split(poly, low, high, value), False)
        self.assertIs(is_split(poly + 1, low, high, split), False)
        self.assertIs(is_split(poly, low, 1, split), False)

    def test_what_was_told_with_more_cuts(self):
        random = Random(3)
        for seed in range(8):
            square = random_poly(seed, 4, 5)
            poly = square * square + tiny(9)
            split = never_below(poly, -1, 1)
            more = {Fraction(random.randrange(-99, 100), 100) for _ in range(5)} | {fraction(cut) for cut in split.cuts}
            cuts = tuple((3 * cut.numerator, 3 * cut.denominator) for cut in sorted(more))
            self.assertIs(is_split(poly, -1, 1, Split(split.root, split.rest, cuts)), True)

    def test_sizes(self):
        square = random_poly(9, 15, 80)
        poly = square * square + tiny(160)
        split = never_below(poly, -100, 100)
        self.assertIs(is_split(poly, -100, 100, split), True)
        self.assertIs(is_split(poly, -100, 100, Split(split.root, split.rest, ())), False)

    def test_bad_intervals_go_ahead(self):
        for low, high in NO_INTERVALS:
            for value in (None, Split(Poly((1,)), Poly((1,)), ())):
                self.bad_interval(low, high, is_split, Poly((1,)), low, high, value)


class TestObjects(Asking):
    def test_they_keep_what_they_are_given(self):
        self.keep_what_they_are_given({
            Split: ("root", "rest", "cuts"), Below: ("point", "number"), Floor: ("number", "split", "point"),
        })

    def test_equal_calls_tell_equal_things(self):
        poly = poly_of("x^4 - 4*x^2 + 5")
        one, other = never_below(poly, [-6, 3], 2), never_below(poly, (-2, 1), (4, 2))
        self.assertEqual((one.root, one.rest, one.cuts), (other.root, other.rest, other.cuts))

    def test_they_are_defined_here(self):
        self.are_defined_in(signs, "Split", "never_below", "Below", "is_split", "count_zeros", "zeros", "Floor", "least_value")

    def test_a_point_of_many(self):
        poly = product_of(*[Poly((-k, 7)) for k in range(7)])
        found = never_below(poly, 0, 1)
        self.assertLess(worth(poly, fraction(found.point)), 0)


if __name__ == "__main__":
    unittest.main()
