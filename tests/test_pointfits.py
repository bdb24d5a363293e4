"""Promises [33] to [40]."""

import unittest
from fractions import Fraction
from random import Random

from checking import is_told_ratio, moments_vanish, worth
from helping import NO_RATIOS, Asking, fraction, pair, random_poly, random_ratio

from nearcurves import pointfits
from nearcurves.pointfits import (
    Barred, Boundless, Nearest, Points, Reach, barred, bound_of, error_of, is_nearest, is_reach, nearest, reach,
)
from nearcurves.polys import Poly, poly_of

NO_POWERS = [
    (), [], None, 0, 3, True, "0", b"\0", {0: 1}, {0}, range(3), (1, 0), (0, 0), (0, 1, 1), [0, 2, 1], (-1,), (13,), (0, 13), (0, True),
    (False,), (0.0,), ("0",), (None,), ((0, 1),), (0, (1, 1)), (0, [1]), (10 ** 30,), Poly((1,)), iter((0,)),
]
OTHERS = [None, True, 0, "told", (), [], (1, 2), {}, object(), Poly((1,)), Nearest, (Poly((1,)), (0, 1), ())]


def points_of(places, numbers, weights=None):
    return Points([pair(item) for item in places], [pair(item) for item in numbers],
                  None if weights is None else [pair(item) for item in weights])


def drawn(seed, many, digits=1, weighted=False, positive=False):
    """Points, their places and numbers being drawn."""
    random = Random(seed)
    places = set()
    while len(places) < many:
        place = fraction(random_ratio(random, digits))
        places.add(abs(place) if positive else place)
    numbers = [fraction(random_ratio(random, digits)) for _ in places]
    weights = [abs(fraction(random_ratio(random, digits))) + Fraction(1, 7) for _ in places] if weighted else None
    return points_of(sorted(places), numbers, weights)


def error_by_sums(points, poly):
    rows = zip(points.points, points.numbers, points.weights)
    return max(fraction(weight) * abs(worth(poly, fraction(point)) - fraction(number)) for point, number, weight in rows)


def is_of(poly, powers):
    return isinstance(poly, Poly) and all(number == (0, 1) or power in powers for power, number in enumerate(poly.numbers))


def number_by_sums(points, powers, bar):
    """The number of a bar by the sums of the document; None if it is none."""
    indices = [index for index, _ in bar]
    if indices != sorted(set(indices)) or any(fraction(share) == 0 for _, share in bar):
        return None
    if not moments_vanish([(points.points[index], share) for index, share in bar], powers):
        return None
    if sum(abs(fraction(share)) / fraction(points.weights[index]) for index, share in bar) != 1:
        return None
    return sum(fraction(share) * fraction(points.numbers[index]) for index, share in bar)


class TestPoints(Asking):
    def test_attributes(self):
        places, numbers, weights = [[-4, 2], 0, (3, 9)], (1, [2, 4], 0), [1, (6, 4), [2, 2]]
        points = Points(places, numbers, weights)
        places[0][0], weights[0] = 9, 7
        self.assertEqual(points.points, ((-2, 1), (0, 1), (1, 3)))
        self.assertEqual(points.numbers, ((1, 1), (1, 2), (0, 1)))
        self.assertEqual(points.weights, ((1, 1), (3, 2), (1, 1)))
        self.assertEqual(Points([5], [3]).weights, ((1, 1),))
        self.assertEqual(Points([5], [3], weights=None).weights, ((1, 1),))
        for row in (points.points, points.numbers, points.weights):
            self.assertTrue(type(row) is tuple and all(is_told_ratio(item) for item in row))

    def test_bad_points(self):
        values = [(), [], (1, 1), (1, 0), (0, 1, (2, 2)), None, 0, True, "01", {0: 1}, {0}, range(2), Poly((1,))]
        values += [(0, value) for value in NO_RATIOS] + [[value] for value in NO_RATIOS]
        for value in values:
            self.bad_row(value, Points, value, None, 7)

    def test_bad_numbers(self):
        values = [(), [1], (1, 2, 3), None, 0, True, "01", {0: 1}, range(2), Poly((1, 2))]
        values += [(0, value) for value in NO_RATIOS] + [[value, 0] for value in NO_RATIOS]
        for value in values:
            self.bad_row(value, Points, (0, 1), value, 7)
        self.assertEqual(Points((0, 1), (5, -5)).numbers, ((5, 1), (-5, 1)))

    def test_bad_weights(self):
        values = [(), [1], (1, 2, 3), 0, True, "01", {0: 1}, range(2), (1, 0), (-1, 1), [(0, 3), 1], [1, (-1, 10 ** 60)]]
        values += [(1, value) for value in NO_RATIOS] + [[value, 1] for value in NO_RATIOS]
        for value in values:
            self.bad_row(value, Points, (0, 1), (0, 1), value)

    def test_error_of(self):
        for seed in range(20):
            points = drawn(seed, 5, 3, seed % 2 == 0)
            poly = random_poly(seed, 3, 2)
            told = error_of(points, poly)
            self.assertTrue(is_told_ratio(told))
            self.assertEqual(fraction(told), error_by_sums(points, poly))
        self.assertEqual(error_of(Points((0, 1), (3, 4)), Poly((3, 1))), (0, 1))
        self.assertEqual(error_of(Points((0, 1), (3, 4), (2, 6)), Poly(())), (24, 1))
        self.assertEqual(error_of(Points((0, 1), (-3, -4), ((1, 2), (1, 3))), Poly(())), (3, 2))


class TestBarred(Asking):
    POINTS = Points((-1, 0, 1, 2), (1, 0, 1, (9, 2)), (1, 1, 2, (1, 2)))

    def test_right_ones(self):
        points = Points((-1, 0, 1), (1, 0, 1))
        self.assertEqual(barred(points, (0, 1), ((0, (1, 4)), (1, (-1, 2)), (2, (1, 4)))), (1, 2))
        self.assertEqual(barred(points, [0, 1], ((0, (-2, 8)), (1, (3, 6)), (2, (-1, 4)))), (-1, 2))
        self.assertEqual(barred(points, (1, 3, 5), ((1, 1),)), (0, 1))
        self.assertEqual(barred(points, (1, 3, 5), ((0, (1, 2)), (2, (1, 2)))), (1, 1))
        self.assertEqual(barred(points, (2, 4), ((1, -1),)), (0, 1))
        # With the weights 1, 1, 2, 1 / 2 the sizes add up to 1.
        shares = [Fraction(1), Fraction(-2), Fraction(1)]
        total = 1 + 2 + Fraction(1, 2)
        bar = tuple((k, pair(share / total)) for k, share in enumerate(shares))
        self.assertEqual(barred(self.POINTS, (0, 1), bar), pair(Fraction(2) / total))

    def test_one_thing_changed(self):
        points = Points((-1, 0, 1), (1, 0, 1))
        bar = ((0, (1, 4)), (1, (-1, 2)), (2, (1, 4)))
        wrong = [
            (), bar[:2], bar[::-1], bar + bar[:1], list(bar), [list(item) for item in bar], tuple(list(item) for item in bar),
            ((0, (1, 4)), (1, (-1, 2)), (3, (1, 4))), ((-1, (1, 4)), (1, (-1, 2)), (2, (1, 4))), ((0, (1, 2)), (1, -1), (2, (1, 2))),
            ((0, (1, 4), 1),) + bar[1:], ((False, (1, 4)),) + bar[1:], (((0, 1), (1, 4)),) + bar[1:], ((0, [1, 4]),) + bar[1:],
            bar[:1] + ((1, 0),) + bar[1:], ((0, (1, 4)), (0, (-1, 2)), (2, (1, 4))), (((1, 4), 0),) + bar[1:], None, 0, "bar", {}, object(),
        ]
        wrong += [((0, value),) + bar[1:] for value in NO_RATIOS]
        for value in wrong:
            self.assertIsNone(barred(points, (0, 1), value))
        self.assertIsNone(barred(points, (0, 1, 2), bar))
        self.assertIsNone(barred(points, (0, 2), bar))
        self.assertEqual(barred(points, (0, 1), bar), (1, 2))

    def test_bad_powers(self):
        points = Points((-1, 0, 1), (1, 0, 1))
        for powers in NO_POWERS:
            self.bad_row(powers, barred, points, powers, None)
            self.bad_row(powers, nearest, points, powers)
            self.bad_row(powers, is_nearest, points, powers, None)
            self.bad_row(powers, bound_of, points, powers, None, None, None)
            self.bad_row(powers, reach, points, powers, None, None)
            self.bad_row(powers, is_reach, points, powers, None, None, None)


class TestNearest(unittest.TestCase):
    def holds(self, points, powers):
        found = nearest(points, powers)
        self.assertIsInstance(found, Nearest)
        self.assertTrue(is_of(found.poly, powers) and is_told_ratio(found.error))
        self.assertEqual(fraction(found.error), error_by_sums(points, found.poly))
        if found.error == (0, 1):
            self.assertEqual(found.bar, ())
        else:
            self.assertEqual(number_by_sums(points, powers, found.bar), fraction(found.error))
            self.assertEqual(barred(points, powers, found.bar), found.error)
            self.assertTrue(type(found.bar) is tuple and all(type(item) is tuple and is_told_ratio(item[1]) for item in found.bar))
        self.assertIs(is_nearest(points, powers, found), True)
        return found

    def test_known_ones(self):
        found = self.holds(Points((-1, 0, 1), (1, 0, 1)), (0, 1))
        self.assertEqual((found.poly, found.error), (Poly(((1, 2),)), (1, 2)))
        found = self.holds(Points((0, 1, 2, 3), (0, 1, 4, 9)), [0, 1])
        self.assertEqual((found.poly, found.error), (Poly((-1, 3)), (1, 1)))
        found = self.holds(Points((-1, 0, 1), (5, 7, 5)), (1, 3))
        self.assertEqual(found.error, (7, 1))
        self.assertEqual(self.holds(Points((3,), (5,), (2,)), (1,)).error, (0, 1))
        self.assertEqual(self.holds(Points((0,), (5,), (2,)), (1, 2)).error, (10, 1))

    def test_planted_polynomials(self):
        random = Random(61)
        for powers in ((0, 1, 2), (1, 3, 5), (0, 2, 4, 6), (2, 7, 12), (5,)):
            for many in (1, 2, 6, 10):
                numbers = [0] * 13
                for power in powers:
                    numbers[power] = random_ratio(random, 6)
                poly = Poly(numbers)
                places = sorted({fraction(random_ratio(random, 1)) for _ in range(many)})
                weights = [Fraction(random.randrange(1, 9), 3) for _ in places]
                found = self.holds(points_of(places, [worth(poly, place) for place in places], weights), powers)
                self.assertEqual(found.error, (0, 1))
                if len({abs(place) for place in places} - {0}) >= len(powers):
                    self.assertEqual(found.poly, poly)

    def test_fewer_points_than_powers(self):
        for seed in range(12):
            points = drawn(seed, 4, 2, positive=True)
            for powers in ((0, 1, 2, 3), (0, 1, 2, 3, 4, 5), (0, 2, 5, 6, 9)):
                self.assertEqual(self.holds(points, powers).error, (0, 1))

    def test_only_one_is_nearest(self):
        # For powers from 0 on, by the signs of the errors at the points of the bar, which are unlike at neighbors.
        for seed in range(25):
            points = drawn(seed, 9, 2, seed % 2 == 0)
            for degree in (0, 1, 3, 5):
                found = self.holds(points, tuple(range(degree + 1)))
                self.assertEqual(len(found.bar), degree + 2)
                errors = []
                for index, share in found.bar:
                    place, number = fraction(points.points[index]), fraction(points.numbers[index])
                    error = (number - worth(found.poly, place)) * fraction(points.weights[index])
                    self.assertEqual(abs(error), fraction(found.error))
                    self.assertGreater(error * fraction(share), 0)
                    errors.append(error)
                self.assertTrue(all(one * other < 0 for one, other in zip(errors, errors[1:])))

    def test_drawn_ones(self):
        random = Random(62)
        for seed in range(80):
            points = drawn(seed, random.randrange(1, 10), random.choice((1, 1, 2, 12)), seed % 2 == 0)
            powers = tuple(sorted(random.sample(range(13), random.randrange(1, 6))))
            self.holds(points, powers)

    def test_points_taken_away_and_powers_put_in(self):
        for seed in range(15):
            points = drawn(seed, 7, 2, seed % 2 == 0)
            least = fraction(nearest(points, (0, 3)).error)
            for place in range(7):
                kept = [row[:place] + row[place + 1:] for row in (points.points, points.numbers, points.weights)]
                self.assertLessEqual(fraction(nearest(Points(*kept), (0, 3)).error), least)
            for powers in ((0, 1, 3), (0, 3, 4), (0, 3, 12)):
                self.assertLessEqual(fraction(nearest(points, powers).error), least)

    def test_points_on_both_sides_of_0(self):
        places = [Fraction(k, 2) for k in range(-5, 6)]
        for powers in ((0, 2, 4), (1, 3), (1, 2), (3, 4, 8), (1, 5, 12)):
            for function in (lambda x: abs(x), lambda x: x * x * x, lambda x: 1, lambda x: x - abs(x) + 2):
                self.holds(points_of(places, [function(place) for place in places]), powers)

    def test_sizes(self):
        self.holds(drawn(70, 40, 2, True), tuple(range(8)))
        self.holds(drawn(71, 20, 2, True), tuple(range(13)))
        self.holds(drawn(72, 40, 40, True), (0, 1, 3, 4, 6, 7, 10, 12))
        self.holds(drawn(73, 12, 300, True), (0, 1, 2, 3))
        self.holds(drawn(74, 6, 300), (1, 3, 5, 12))

    def test_wrong_ones(self):
        points, powers = Points((0, 1, 2, 3), (0, 1, 4, 9)), (0, 1)
        found = nearest(points, powers)
        poly, error, bar = found.poly, found.error, found.bar
        self.assertIs(is_nearest(points, powers, Nearest(poly, error, bar)), True)
        self.assertIs(is_nearest(points, powers, Nearest(poly, 1, bar)), True)
        self.assertIs(is_nearest(points, powers, Nearest(poly, (7, 7), bar)), True)
        longer = tuple((index, (3 * share[0], 3 * share[1])) for index, share in bar)
        self.assertIs(is_nearest(points, powers, Nearest(poly, error, longer)), True)
        self.assertIs(is_nearest(points, powers, Nearest(poly, error, list(bar))), True)
        wrong = OTHERS + [
            Nearest(poly + (1, 10 ** 50), error, bar), Nearest(poly, (1, 2), bar), Nearest(poly, 2, bar), Nearest(poly, error, ()),
            Nearest(poly, error, bar[1:]), Nearest(poly, error, None), Nearest(None, error, bar), Nearest(poly.numbers, error, bar),
            Nearest(Poly((-1, 3, (1, 10 ** 9))), error, bar), Nearest(poly_of("x^2"), 0, ()), Nearest(poly, True, bar),
            Nearest(poly, None, bar), Nearest(poly, [1, 1], [[0, 1]]), Nearest(poly, (1, -1), bar), Barred(bar),
        ]
        for value in wrong:
            self.assertIs(is_nearest(points, powers, value), False)
        planted = Points((0, 1, 2), (1, 3, 5))
        self.assertIs(is_nearest(planted, (0, 1), Nearest(Poly((1, 2)), 0, ())), True)
        self.assertIs(is_nearest(planted, (0, 1), Nearest(Poly((1, 2)), (0, 9), ())), True)
        self.assertIs(is_nearest(planted, (0, 1), Nearest(Poly((1, 2)), 0, [])), True)
        some_bar = ((0, (1, 4)), (1, (-1, 2)), (2, (1, 4)))
        self.assertEqual(barred(planted, (0, 1), some_bar), (0, 1))
        self.assertIs(is_nearest(planted, (0, 1), Nearest(Poly((1, 2)), 0, some_bar)), False)
        self.assertIs(is_nearest(planted, (0, 1), Nearest(Poly((1, 2)), 0, None)), False)


class TestReach(Asking):
    def sum_of(self, poly, powers, row):
        numbers = list(poly.numbers) + [(0, 1)] * 13
        return sum(fraction(item) * fraction(numbers[power]) for power, item in zip(powers, row))

    def bound(self, points, powers, row, e, tie):
        """The bound of a tie by the sums of the document."""
        indices = [index for index, _ in tie]
        self.assertEqual(indices, sorted(set(indices)))
        for power, item in zip(powers, row):
            total = sum(fraction(share) * fraction(points.points[index]) ** power for index, share in tie)
            self.assertEqual(total, fraction(item))
        self.assertTrue(all(fraction(share) != 0 for _, share in tie))
        sizes = sum(abs(fraction(share)) / fraction(points.weights[index]) for index, share in tie)
        return sum(fraction(share) * fraction(points.numbers[index]) for index, share in tie) + fraction(e) * sizes

    def holds(self, points, powers, row, e):
        found = reach(points, powers, row, e)
        self.assertIs(is_reach(points, powers, row, e, found), True)
        if isinstance(found, Barred):
            self.assertGreater(number_by_sums(points, powers, found.bar), fraction(e))
            return found
        polys = (found.poly,) if isinstance(found, Boundless) else (found.low, found.high)
        for poly in polys:
            self.assertTrue(is_of(poly, powers))
            self.assertLessEqual(error_by_sums(points, poly), fraction(e))
        if isinstance(found, Boundless):
            self.assertTrue(is_of(found.way, powers))
            self.assertTrue(all(worth(found.way, fraction(place)) == 0 for place in points.points))
            self.assertNotEqual(self.sum_of(found.way, powers, row), 0)
            return found
        self.assertIsInstance(found, Reach)
        self.assertTrue(is_told_ratio(found.least) and is_told_ratio(found.most))
        turned = [pair(-fraction(item)) for item in row]
        self.assertEqual(self.sum_of(found.low, powers, row), fraction(found.least))
        self.assertEqual(self.sum_of(found.high, powers, row), fraction(found.most))
        self.assertEqual(self.bound(points, powers, turned, e, found.low_tie), -fraction(found.least))
        self.assertEqual(self.bound(points, powers, row, e, found.high_tie), fraction(found.most))
        self.assertEqual(bound_of(points, powers, row, e, found.high_tie), found.most)
        return found

    def rows(self, powers, points):
        ones = [[int(k == place) for k in range(len(powers))] for place in range(len(powers))]
        places = [fraction(points.points[0]), Fraction(5, 3)]
        return ones + [[0] * len(powers)] + [[pair(place ** power) for power in powers] for place in places]

    def test_below_at_and_above_the_least_error(self):
        random = Random(63)
        for seed in range(25):
            points = drawn(seed, random.randrange(1, 8), random.choice((1, 2)), seed % 2 == 0)
            powers = tuple(sorted(random.sample(range(6), random.randrange(1, 5))))
            least = fraction(nearest(points, powers).error)
            for e in (least - Fraction(1, 10 ** 20), least, least + Fraction(1, 10 ** 20), least + 2, least / 2, 0):
                if e >= 0:
                    for row in self.rows(powers, points):
                        found = self.holds(points, powers, row, pair(e))
                        self.assertEqual(isinstance(found, Barred), e < least)

    def test_known_ones(self):
        points = Points((0, 1), (0, 1))
        found = self.holds(points, (0, 1), (1, 0), 1)
        self.assertEqual((found.least, found.most), ((-1, 1), (1, 1)))
        found = self.holds(points, (0, 1), (1, 2), (1, 2))
        self.assertEqual((found.least, found.most), ((1, 2), (7, 2)))
        self.assertIsInstance(self.holds(points, (0, 1, 2), (0, 0, 1), 0), Boundless)
        found = self.holds(points, (0, 1, 2), (0, 1, 1), 0)
        self.assertEqual((found.least, found.most), ((1, 1), (1, 1)))
        self.assertIsInstance(self.holds(Points((-1, 1), (1, 1)), (1, 3), (1, -1), (1, 2)), Barred)
        self.assertIsInstance(self.holds(Points((-1, 1), (1, 1)), (1, 3), (1, -1), 1), Boundless)
        found = self.holds(Points((-1, 1), (1, 1)), (1, 3), (0, 0), 1)
        self.assertEqual((found.least, found.most, found.low_tie, found.high_tie), ((0, 1), (0, 1), (), ()))

    def test_lists_stand_for_tuples(self):
        points = Points((0, 1, 2), (0, 1, 5))
        row = [[2, 4], (0, 3)]
        self.holds(points, [0, 1], row, [6, 4])
        self.assertEqual(row, [[2, 4], (0, 3)])

    def test_sizes(self):
        points = drawn(75, 40, 2, True)
        powers = tuple(range(8))
        e = fraction(nearest(points, powers).error)
        self.holds(points, powers, self.rows(powers, points)[3], pair(e + 1))
        points = drawn(76, 10, 300)
        e = fraction(nearest(points, (0, 1, 2)).error)
        self.holds(points, (0, 1, 2), (0, 0, 1), pair(e))
        self.holds(points, (0, 1, 2), (0, 0, 1), pair(e * 2))

    def test_bound_of(self):
        points = Points((0, 1, 2), (3, 5, 8), (1, 2, 4))
        tie = ((0, 2), (1, -3), (2, (4, 4)))
        self.assertEqual(bound_of(points, (0, 1), (0, -1), 0, tie), (-1, 1))
        self.assertEqual(bound_of(points, (0, 1), ([0, 5], (-2, 2)), (1, 3), tie), pair(-1 + Fraction(1, 3) * (2 + Fraction(3, 2) + Fraction(1, 4))))
        self.assertEqual(bound_of(points, (0, 1), (0, 0), 7, ()), (0, 1))
        wrong = [
            (), tie[:2], tie[::-1], list(tie), tuple(list(item) for item in tie), tie + ((3, 1),), ((True, 2),) + tie[1:], None, 0, "tie", {},
            ((0, 2), (0, -3), (2, 1)), ((0, 2), (1, -3), (1, 0), (2, 1)), ((0, 2), (1, 0), (1, -3), (2, 1)), ((-3, 2),) + tie[1:], tie + (None,),
        ]
        wrong += [((0, value),) + tie[1:] for value in NO_RATIOS]
        for value in wrong:
            self.assertIsNone(bound_of(points, (0, 1), (0, -1), 0, value))
        self.assertIsNone(bound_of(points, (0, 1), (0, -2), 0, tie))
        self.assertIsNone(bound_of(points, (0, 2), (0, -1), 0, tie))

    def test_wrong_reaches(self):
        points, powers, row, e = Points((0, 1, 2, 3), (0, 1, 4, 9)), (0, 1), (0, 1), 2
        found = reach(points, powers, row, e)
        fields = [found.least, found.most, found.low, found.high, found.low_tie, found.high_tie]
        self.assertIs(is_reach(points, powers, row, e, Reach(*fields)), True)
        longer = tuple((index, (3 * share[0], 3 * share[1])) for index, share in found.high_tie)
        right = [(0, (5 * found.least[0], 5 * found.least[1])), (5, longer), (5, list(found.high_tie))]
        for place, value in right:
            self.assertIs(is_reach(points, powers, row, e, Reach(*fields[:place], value, *fields[place + 1:])), True)
        one = Poly((1,))
        wrong = [(0, found.most), (1, found.least), (0, None), (1, True), (1, [7, 1, 1]), (2, found.high), (3, found.low), (2, None), (3, one),
                 (3, found.high.numbers), (4, ()), (5, ()), (4, found.high_tie), (5, found.low_tie), (4, None), (5, 7),
                 (2, found.low + poly_of("x^2 - 3*x")), (0, (found.least[0] - 1, found.least[1]))]
        for place, value in wrong:
            self.assertIs(is_reach(points, powers, row, e, Reach(*fields[:place], value, *fields[place + 1:])), False)
        for value in OTHERS + [Barred(()), Barred(None), Barred(nearest(points, powers).bar), Boundless(found.low, found.high),
                               Boundless(found.low, Poly(())), Boundless(None, None), Nearest(*fields[:3])]:
            self.assertIs(is_reach(points, powers, row, e, value), False)

    def test_wrong_boundless_and_barred(self):
        points = Points((0, 1), (0, 1))
        poly, way = Poly((0, 1)), Poly((0, 1, -1))
        for one, other, right in ((poly, way, True), (way + poly, way * 7, True), (poly, poly, False), (poly + 1, way, False),
                                  (poly, Poly(()), False), (poly, way * Poly((0, 1)), False), (None, way, False), (poly, None, False)):
            self.assertIs(is_reach(points, (0, 1, 2), (0, 0, 1), (1, 2), Boundless(one, other)), right)
        self.assertIs(is_reach(points, (0, 1, 2), (0, 1, 1), (1, 2), Boundless(poly, way)), False)
        points, bar = Points((-1, 0, 1), (1, 0, 1)), ((0, (1, 4)), (1, (-1, 2)), (2, (1, 4)))
        for e, right in ((0, True), ((49, 100), True), ((1, 2), False), (1, False)):
            self.assertIs(is_reach(points, (0, 1), (0, 1), e, Barred(bar)), right)
            self.assertIs(is_reach(points, (0, 1), (0, 1), e, Barred(list(bar))), right)
        self.assertIs(is_reach(points, (0, 1), (0, 1), 0, Barred(bar[:2])), False)

    def test_errors_in_their_order(self):
        points = Points((0, 1), (0, 1))
        values = [(), (1,), [1, 2, 3], None, 0, True, "01", {0: 1}, range(2), Poly((1, 2))]
        values += [(0, value) for value in NO_RATIOS] + [[value, 0] for value in NO_RATIOS]
        for row in values:
            self.bad_row(row, reach, points, (0, 1), row, None)
            self.bad_row(row, bound_of, points, (0, 1), row, None, None)
            self.bad_row(row, is_reach, points, (0, 1), row, None, None)
        for e in NO_RATIOS + [-1, (-1, 10 ** 60), [-3, 2]]:
            self.bad("e", e, reach, points, (0, 1), (0, 1), e)
            self.bad("e", e, bound_of, points, (0, 1), (0, 1), e, None)
            self.bad("e", e, is_reach, points, (0, 1), (0, 1), e, None)


class TestObjects(Asking):
    def test_they_keep_what_they_are_given(self):
        self.keep_what_they_are_given({
            Nearest: ("poly", "error", "bar"), Barred: ("bar",), Boundless: ("poly", "way"),
            Reach: ("least", "most", "low", "high", "low_tie", "high_tie"),
        })

    def test_they_are_defined_here(self):
        self.are_defined_in(pointfits, "Points", "error_of", "barred", "Nearest", "nearest", "is_nearest", "Barred", "Boundless", "Reach",
                            "bound_of", "reach", "is_reach")

    def test_equal_calls_and_arguments(self):
        points, powers, row, e = drawn(5, 6, 2, True), [0, 2], [[2, 4], 1], [90, 9]
        one, other = nearest(points, powers), nearest(points, (0, 2))
        self.assertEqual((one.poly, one.error, one.bar), (other.poly, other.error, other.bar))
        one, other = reach(points, powers, row, e), reach(points, (0, 2), ((1, 2), 1), 10)
        self.assertEqual((one.least, one.most, one.low_tie, one.high_tie), (other.least, other.most, other.low_tie, other.high_tie))
        self.assertEqual((powers, row, e), ([0, 2], [[2, 4], 1], [90, 9]))


if __name__ == "__main__":
    unittest.main()
