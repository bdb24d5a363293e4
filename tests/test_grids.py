"""Polynomials on grids."""

import unittest
from fractions import Fraction
from itertools import product
from random import Random

from checking import is_told_ratio, worth
from helping import NO_RATIOS, Asking, fraction, pair

from nearcurves import grids
from nearcurves.errors import Fewer, TooMany, Unlike
from nearcurves.grids import (
    OnGrid, Range, all_on_grid, are_ranges, best_on_grid, fewest_bits, grid_poly, nearest_row, on_grid, ranges,
)
from nearcurves.pointfits import Points, nearest
from nearcurves.polys import Poly

CURVE = Points((-1, (-1, 2), 0, (1, 3), 1), (2, (3, 4), 0, (1, 5), (5, 4)), (1, 2, 1, (1, 2), 3))
EVEN = Points((-1, 0, 1), (1, 0, 1))
FLAT = Points((1, 2, 3), ((1, 2), (1, 2), (1, 2)))
ALONE = Points(((1, 2),), ((7, 3),))
HALVES = ((1, 2), (1, 4))
THREE = (1, (1, 2), (1, 4))

NO_STEPS = [
    (), [], None, 1, "1", (0,), (1, 0), (1, -1), (1, (1, 0)), (1, (0, 1)), (True,), (1.0,), (1,) * 6, {1: 1}, (None,),
    ((1, 2, 3),),
    Poly((1, 1)), range(2), ((1, 2), (-1, 2)),
]
NO_ES = [value for value in NO_RATIOS if value is not None] + [None, -1, (-1, 2), [-1, 3]]
NO_DEGREES = [-1, 5, True, None, "1", (1, 1), 1.0]


def error_with(points, numbers):
    """The error of a polynomial, told by Fractions."""
    greatest = Fraction(0)
    for x, number, weight in zip(points.points, points.numbers, points.weights):
        value = sum(item * fraction(x) ** power for power, item in enumerate(numbers))
        greatest = max(greatest, fraction(weight) * abs(value - fraction(number)))
    return greatest


def rows_near(points, steps, reach):
    """All rows with integers not far from those of the nearest polynomial, with their errors."""
    middle = nearest(points, tuple(range(len(steps)))).poly.numbers
    middle = [fraction(middle[power]) if power < len(middle) else Fraction(0) for power in range(len(steps))]
    sides = []
    for number, step in zip(middle, steps):
        whole = int(number / fraction(step))
        sides.append(range(whole - reach, whole + reach + 1))
    found = {}
    for row in product(*sides):
        found[row] = error_with(points, [whole * fraction(step) for whole, step in zip(row, steps)])
    return found


def tie_bound(points, start, steps, e, sign, tie):
    """The bound of a tie for (sign, 0, ..) on the rest of the points for a start; None if it is none."""
    power = len(start)
    indices = [index for index, _ in tie]
    if indices != sorted(set(indices)) or any(fraction(part) == 0 for _, part in tie):
        return None
    for other in range(power, len(steps)):
        total = sum(fraction(part) * fraction(points.points[index]) ** other for index, part in tie)
        if total != (sign if other == power else 0):
            return None
    bound = Fraction(0)
    for index, part in tie:
        x = fraction(points.points[index])
        left = fraction(points.numbers[index])
        left -= sum(whole * fraction(step) * x ** k for k, (whole, step) in enumerate(zip(start, steps)))
        bound += fraction(part) * left + fraction(e) * abs(fraction(part)) / fraction(points.weights[index])
    return bound


def paper_holds(points, steps, e, paper):
    """Whether the Ranges are as the document tells, by its sums."""
    waiting = [()]
    for item in paper:
        start = waiting.pop(0)
        if item.start != start or not 0 <= item.high - item.low + 1 <= 2000:
            return False
        step = fraction(steps[len(start)])
        if not tie_bound(points, start, steps, e, -1, item.below) < step * (1 - item.low):
            return False
        if not tie_bound(points, start, steps, e, 1, item.above) < step * (item.high + 1):
            return False
        if len(start) < len(steps) - 1:
            waiting = [(*start, whole) for whole in range(item.low, item.high + 1)] + waiting
    return not waiting


def changed(item, **fields):
    kept = dict(vars(item))
    kept.update(fields)
    return Range(*[kept[name] for name in ("start", "low", "high", "below", "above")])


class TestRows(Asking):
    def test_on_grid(self):
        self.assertEqual(on_grid(Poly((1, (-3, 4))), HALVES), (2, -3))
        self.assertEqual(on_grid(Poly(()), HALVES), (0, 0))
        self.assertEqual(on_grid(Poly(((3, 2),)), [[1, 2], 1, 7]), (3, 0, 0))
        self.assertIsNone(on_grid(Poly(((1, 4),)), HALVES))
        self.assertIsNone(on_grid(Poly((1, (1, 8))), HALVES))
        self.assertIsNone(on_grid(Poly((1, 0, 1)), HALVES))
        self.assertEqual(on_grid(Poly(((2, 3), (5, 6))), ((1, 3), (5, 6))), (2, 1))

    def test_grid_poly(self):
        self.assertEqual(grid_poly((2, -3), HALVES), Poly((1, (-3, 4))))
        self.assertEqual(grid_poly([0, 0], [[1, 2], 3]), Poly(()))
        for row in ((2,), (1, 2, 3), (), None, 1, (1, True), (1, 1.0), ("1", 1), ((1, 1), 1), range(2), {1: 2, 3: 4}, "12"):
            self.bad_row(row, grid_poly, row, HALVES)

    def test_nearest_row(self):
        self.assertEqual(nearest_row(Poly(((1, 4), (1, 8))), HALVES), (1, 1))
        self.assertEqual(nearest_row(Poly(((-1, 4), (-1, 8))), HALVES), (0, 0))
        self.assertEqual(nearest_row(Poly(((-3, 4), (-7, 16))), HALVES), (-1, -2))
        self.assertEqual(nearest_row(Poly(()), HALVES), (0, 0))
        self.assertEqual(nearest_row(Poly((7,)), ((3, 2), 1)), (5, 0))
        random = Random(62)
        for _ in range(50):
            number = (random.randrange(-10 ** 9, 10 ** 9), random.randrange(1, 10 ** 4))
            step = (random.randrange(1, 99), random.randrange(1, 99))
            whole = nearest_row(Poly((number,)), (step,))[0]
            distance = abs(fraction(number) - whole * fraction(step))
            self.assertLessEqual(distance, abs(fraction(number) - (whole - 1) * fraction(step)))
            self.assertLess(distance, abs(fraction(number) - (whole + 1) * fraction(step)))
        with self.assertRaises(Unlike) as caught:
            nearest_row(Poly((1, 2, 3)), HALVES)
        self.assertEqual(caught.exception.what, "degree")

    def test_wrong_steps_come_first(self):
        for steps in NO_STEPS:
            self.bad_row(steps, on_grid, Poly((1,)), steps)
            self.bad_row(steps, grid_poly, None, steps)
            self.bad_row(steps, nearest_row, Poly((1,) * 9), steps)
            self.bad_row(steps, all_on_grid, ALONE, steps, None)
            self.bad_row(steps, best_on_grid, ALONE, steps)
            self.bad_row(steps, ranges, ALONE, steps, None)
            self.bad_row(steps, are_ranges, ALONE, steps, None, None)


class TestGrids(Asking):
    def test_all_rows(self):
        for points, steps, reach in (
            (CURVE, (1,), 9), (CURVE, ((1, 4),), 30), (CURVE, HALVES, 12), (CURVE, THREE, 9), (EVEN, HALVES, 9),
            (EVEN, THREE, 9),
            (FLAT, ((1, 3),), 9), (FLAT, (1, 1), 9), (ALONE, ((1, 7),), 9),
        ):
            found = rows_near(points, steps, reach)
            best = min(found.values())
            told = best_on_grid(points, steps)
            self.assertTrue(is_told_ratio(told.error))
            self.assertEqual(fraction(told.error), best)
            self.assertEqual(told.rows, tuple(sorted(row for row, error in found.items() if error == best)))
            for e in (best, best * Fraction(99, 100), best + Fraction(1, 20), best * Fraction(5, 4)):
                told = all_on_grid(points, steps, pair(e))
                self.assertEqual(told, tuple(sorted(row for row, error in found.items() if error <= e)))
                paper = ranges(points, steps, pair(e))
                self.assertIs(type(paper), tuple)
                self.assertTrue(paper_holds(points, steps, pair(e), paper))
                self.assertTrue(are_ranges(points, steps, pair(e), paper))

    def test_ties(self):
        self.assertEqual(best_on_grid(FLAT, (1,)).rows, ((0,), (1,)))
        self.assertEqual(best_on_grid(FLAT, (1,)).error, (1, 2))
        self.assertEqual(all_on_grid(FLAT, (1,), (1, 2)), ((0,), (1,)))
        self.assertEqual(all_on_grid(FLAT, (1,), (49, 100)), ())
        self.assertEqual(best_on_grid(EVEN, (1, 1)).error, (1, 1))
        self.assertEqual(all_on_grid(EVEN, [1, 1, 1], [0, 5]), ((0, 0, 1),))

    def test_three_hundred_rows(self):
        for points, steps in ((ALONE, ((1, 150),)), (FLAT, ((1, 300),))):
            e = (1, 1)
            step = fraction(steps[0])
            many = sum(1 for k in range(-2000, 2000) if error_with(points, [k * step]) <= 1)
            self.assertIn(many, (300, 301, 600, 601))
            if many > 300:
                for function in (all_on_grid, ranges):
                    with self.assertRaises(TooMany) as caught:
                        function(points, steps, e)
                    self.assertEqual((caught.exception.what, caught.exception.limit), ("rows", 300))
                self.assertFalse(are_ranges(points, steps, e, ()))
        whole = Points((1,), (0,))
        self.assertEqual(len(all_on_grid(whole, (1,), (299, 2))), 299)
        half = Points((1,), ((1, 2),))
        self.assertEqual(len(all_on_grid(half, (1,), (299, 2))), 300)
        self.assertTrue(are_ranges(half, (1,), (299, 2), ranges(half, (1,), (299, 2))))
        with self.assertRaises(TooMany):
            all_on_grid(whole, (1,), 150)
        with self.assertRaises(TooMany):
            # At 0 the error is 1/2 at least, and at 1 it is as small as this for a thousand rows.
            best_on_grid(Points((0, 1), ((1, 2), 0), (1, (1, 1000))), (1, 1))
        told = best_on_grid(Points((0, 1), ((1, 2), (1, 2)), (1, (1, 149))), (1, 1))
        self.assertEqual((told.error, len(told.rows), told.rows[0], told.rows[-1]), ((1, 2), 300, (0, -74), (1, 74)))
        with self.assertRaises(TooMany):
            best_on_grid(Points((0, 1), ((1, 2), (1, 2)), (1, (1, 151))), (1, 1))

    def test_errors_in_their_order(self):
        for steps in ((1, 1), [1, 2, 3]):
            for function, rest in ((all_on_grid, (None,)), (best_on_grid, ()), (ranges, (None,)),
                (are_ranges, (None, None))):
                with self.assertRaises(Fewer) as caught:
                    function(ALONE, steps, *rest)
                self.assertEqual(caught.exception.what, "points")
        for e in NO_ES:
            self.bad("e", e, all_on_grid, CURVE, HALVES, e)
            self.bad("e", e, ranges, CURVE, HALVES, e)
            self.bad("e", e, are_ranges, CURVE, HALVES, e, None)

    def test_an_empty_range(self):
        paper = ranges(EVEN, (1, 1), (1, 3))
        self.assertEqual([(item.start, item.high - item.low) for item in paper], [((), -1)])
        self.assertTrue(paper_holds(EVEN, (1, 1), (1, 3), paper))
        paper = ranges(FLAT, (1,), (1, 3))
        self.assertTrue(paper_holds(FLAT, (1,), (1, 3), paper))
        self.assertEqual(len(paper), 1)
        # Here the first power has integers, but the second one has none for them.
        points, e = Points((1, 2, 3), ((1, 2), 1, (3, 2))), (1, 10)
        paper = ranges(points, (1, 1), e)
        self.assertGreater(len(paper), 1)
        self.assertTrue(paper_holds(points, (1, 1), e, paper))
        self.assertEqual(all_on_grid(points, (1, 1), e), ())

    def test_judges_with_one_thing_changed(self):
        e = (3, 4)
        paper = ranges(CURVE, THREE, e)
        self.assertGreater(len(paper), 3)
        first, last = paper[0], paper[-1]
        for other in (list(paper), paper[:-1], paper[1:], (*paper, last), (last, *paper), paper[::-1], (), None, 3, "ab",
            (1,), [1]):
            self.assertFalse(are_ranges(CURVE, THREE, e, other))
        self.assertFalse(are_ranges(CURVE, THREE, (1, 1000), ()))
        for item, rebuilt in ((first, lambda new: (new, *paper[1:])), (last, lambda new: (*paper[:-1], new))):
            for fields in (
                {"start": (5, 5, 5)}, {"start": None}, {"start": (*item.start[:-1], True)}, {"low": None}, {"low": True},
                {"high": "1"},
                {"high": item.low - 2}, {"below": None}, {"above": ()}, {"above": item.below}, {"below": item.above},
                {"below": item.below[:-1]}, {"above": tuple(map(list, item.above))}, {"above": [1, 2]},
                {"low": (item.low, 1)},
                {"above": tuple((index, [*part]) for index, part in item.above)},
                {"above": tuple((index, (part[0] + part[1], part[1])) for index, part in item.above)},
                {"above": (*item.above, (99, (1, 1)))},
            ):
                new = changed(item, **fields)
                self.assertFalse(are_ranges(CURVE, THREE, e, rebuilt(new)), fields)
        wider = changed(last, low=last.low - 1, high=last.high + 7)
        self.assertTrue(are_ranges(CURVE, THREE, e, (*paper[:-1], wider)))
        self.assertFalse(are_ranges(CURVE, THREE, e, (*paper[:-1], changed(last, high=last.low + 2000))))
        self.assertTrue(are_ranges(CURVE, THREE, e, (*paper[:-1], changed(last, high=last.low + 1999))))
        terms = tuple((index, (3 * top, 3 * bottom)) for index, (top, bottom) in last.above)
        self.assertTrue(are_ranges(CURVE, THREE, e, (*paper[:-1], changed(last, above=terms))))
        narrow = changed(last, high=last.high - 1)
        if paper_holds(CURVE, THREE, e, paper) and last.high > last.low:
            self.assertFalse(are_ranges(CURVE, THREE, e, (*paper[:-1], narrow)))
        self.assertFalse(are_ranges(CURVE, THREE, (4, 5), paper) and not paper_holds(CURVE, THREE, (4, 5), paper))

    def test_ties_may_be_anything_that_is_right(self):
        self.assertTrue(are_ranges(FLAT, (1,), (1, 3), (Range((), 1, 0, ((0, -1),), ((1, 1),)),)))
        self.assertTrue(are_ranges(FLAT, (1,), (1, 3), (Range((), 1, 0, ((2, (-2, 2)),), ((1, (1, 1)),)),)))
        self.assertTrue(are_ranges(FLAT, (1,), (1, 2), (Range((), 0, 1, ((0, -1),), ((1, 1),)),)))
        self.assertFalse(are_ranges(FLAT, (1,), (1, 2), (Range((), 1, 1, ((0, -1),), ((1, 1),)),)))
        self.assertFalse(are_ranges(FLAT, (1,), (1, 2), (Range((), 0, 0, ((0, -1),), ((1, 1),)),)))
        self.assertFalse(are_ranges(FLAT, (1,), (1, 3), ((), 1, 0, ((0, -1),), ((1, 1),))))

    def test_sizes(self):
        random = Random(65)
        points = Points(
            [(k - 8, 8) for k in range(16)],
            [(10 ** 59 * 16 // (k + 9) + random.randrange(10 ** 56), 10 ** 59 - k) for k in range(16)],
        )
        steps = ((1, 64),) * 5
        told = best_on_grid(points, steps)
        self.assertEqual(fraction(told.error), error_with(points, [Fraction(whole, 64) for whole in told.rows[0]]))
        e = (told.error[0] * 3, told.error[1] * 2)
        rows = all_on_grid(points, steps, e)
        self.assertLessEqual(set(told.rows), set(rows))
        paper = ranges(points, steps, e)
        self.assertTrue(are_ranges(points, steps, e, paper))
        self.assertTrue(paper_holds(points, steps, e, paper))
        last = [item for item in paper if len(item.start) == 4]
        made = {(*item.start, whole) for item in last for whole in range(item.low, item.high + 1)}
        self.assertLessEqual(set(rows), made)
        self.assertEqual(on_grid(grid_poly(rows[0], steps), steps), rows[0])


class TestFewestBits(Asking):
    def test_by_all_grids(self):
        for points, degree in ((CURVE, 0), (CURVE, 1), (CURVE, 2), (EVEN, 0), (EVEN, 1), (FLAT, 0), (FLAT, 1)):
            least = fraction(nearest(points, tuple(range(degree + 1))).error)
            for e in (least + Fraction(1, 7), least + Fraction(1, 50), least + Fraction(1, 300), 3 * least + 1):
                bits = fewest_bits(points, degree, pair(e))
                steps = ((1, 2 ** bits),) * (degree + 1)
                self.assertLessEqual(fraction(best_on_grid(points, steps).error), e)
                if bits > 0:
                    steps = ((1, 2 ** (bits - 1)),) * (degree + 1)
                    self.assertEqual(all_on_grid(points, steps, pair(e)), ())
            if least > 0:
                self.assertIsNone(fewest_bits(points, degree, pair(least * Fraction(999, 1000))))

    def test_the_least_error_itself(self):
        self.assertEqual(fewest_bits(EVEN, 0, (1, 2)), 1)
        self.assertEqual(fewest_bits(FLAT, 0, 0), 1)
        self.assertEqual(fewest_bits(FLAT, 1, [0, 4]), 1)
        self.assertEqual(fewest_bits(Points((0, 1, 2), (0, (3, 16), (3, 8))), 1, 0), 4)
        self.assertIsNone(fewest_bits(Points((0, 1, 2), (0, (1, 3), (2, 3))), 1, 0))
        self.assertIsNone(fewest_bits(Points((0, 1, 2), ((1, 2), (5, 6), (7, 6))), 1, 0))
        self.assertEqual(fewest_bits(Points((0, 1), (0, 0)), 0, 0), 0)
        self.assertEqual(fewest_bits(Points((0, 1), (4, 8)), 0, 2), 0)

    def test_errors_in_their_order(self):
        for degree in NO_DEGREES:
            self.bad("degree", degree, fewest_bits, ALONE, degree, None)
        for degree in (0, 4):
            with self.assertRaises(Fewer) as caught:
                fewest_bits(ALONE, degree, None)
            self.assertEqual(caught.exception.what, "points")
        with self.assertRaises(Fewer):
            fewest_bits(FLAT, 2, 1)
        for e in NO_ES:
            self.bad("e", e, fewest_bits, FLAT, 1, e)

    def test_sizes(self):
        random = Random(64)
        points = Points([(k, 16) for k in range(16)],
            [(random.randrange(-10 ** 59, 10 ** 59), 10 ** 59) for _ in range(16)])
        least = nearest(points, (0, 1, 2, 3, 4)).error
        bits = fewest_bits(points, 4, (least[0] * 101, least[1] * 100))
        self.assertLessEqual(bits, 16)
        self.assertTrue(all_on_grid(points, ((1, 2 ** bits),) * 5, (least[0] * 101, least[1] * 100)))
        self.assertIsNone(fewest_bits(points, 4, least))


class TestClasses(Asking):
    def test_they_keep_what_they_are_given(self):
        self.keep_what_they_are_given({OnGrid: ("error", "rows"), Range: ("start", "low", "high", "below", "above")})

    def test_where_they_are_defined(self):
        self.are_defined_in(
            grids, "OnGrid", "Range", "on_grid", "grid_poly", "nearest_row", "all_on_grid", "best_on_grid", "ranges",
            "are_ranges",
            "fewest_bits",
        )


if __name__ == "__main__":
    unittest.main()
