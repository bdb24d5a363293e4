"""Runs of points, and joined pieces."""

import unittest
from fractions import Fraction
from itertools import combinations
from random import Random

from checking import is_told_ratio, worth
from helping import NO_RATIOS, Asking, fraction, pair

from nearcurves import runs
from nearcurves.errors import Fewer
from nearcurves.functions import Pieces
from nearcurves.pointfits import Points, barred
from nearcurves.polys import Poly
from nearcurves.runs import BestRuns, Joined, Runs, best_runs, error_steps, fewest_runs, is_joined, joined, run_error

WEIGHTED = Points(
    (-3, -2, (-1, 2), 0, (1, 3), 1, 2, (5, 2)), (4, -1, (2, 3), 0, 5, (7, 2), -2, 1), (1, 2, (1, 3), 4, 1, (5, 2), 1, 3)
)
SQUARES = Points(tuple(range(7)), tuple(k * k for k in range(7)))
LINE = Points((0, 1, 2, 3, 4), (1, 3, 5, 7, 9))
SMALL = Points((0, 1), (5, 7))
ALONE = Points((3,), (4,))

NO_DEGREES = [-1, 13, True, None, "1", (1, 1), 1.0]


def error_by_subsets(points, degree):
    """The least error: the greatest one that degree + 2 of the points have, by divided differences."""
    rows = list(zip(map(fraction, points.points), map(fraction, points.numbers), map(fraction, points.weights)))
    greatest = Fraction(0)
    for chosen in combinations(rows, degree + 2):
        shares = []
        for x, _, _ in chosen:
            product = Fraction(1)
            for other, _, _ in chosen:
                product *= x - other if other != x else 1
            shares.append(1 / product)
        total = sum(share * number for share, (_, number, _) in zip(shares, chosen))
        greatest = max(greatest, abs(total) / sum(abs(share) / weight for share, (_, _, weight) in zip(shares, chosen)))
    return greatest


def part(points, first, last):
    return Points(points.points[first:last], points.numbers[first:last], points.weights[first:last])


def error_with(points, poly):
    rows = zip(map(fraction, points.points), map(fraction, points.numbers), map(fraction, points.weights))
    return max(weight * abs(worth(poly, x) - number) for x, number, weight in rows)


def divisions(many):
    """All divisions of so many points, as tuples of ends."""
    for size in range(many):
        for inner in combinations(range(1, many), size):
            yield (*inner, many)


def errors_of_runs(points, degree):
    many = len(points.points)
    return {
        (first, last): error_by_subsets(part(points, first, last), degree)
        for first in range(many) for last in range(first + 1, many + 1)
    }


def greatest_of(errors, ends):
    return max(errors[run] for run in zip((0, *ends), ends))


class TestRuns(Asking):
    def test_run_error(self):
        for points in (WEIGHTED, SQUARES, LINE, SMALL, ALONE):
            for degree in (0, 1, 2, 3):
                for (first, last), error in errors_of_runs(points, degree).items():
                    told = run_error(points, degree, (first, last))
                    self.assertTrue(is_told_ratio(told))
                    self.assertEqual(fraction(told), error)
                    self.assertEqual(run_error(points, degree, [first, last]), told)
                    if last - first <= degree + 1:
                        self.assertEqual(told, (0, 1))
                    self.assertLessEqual(error, fraction(run_error(points, degree, (0, last))))
        self.assertEqual(run_error(SQUARES, 12, (0, 7)), (0, 1))

    def runs_hold(self, points, degree, e, told):
        self.assertIsInstance(told, Runs)
        ends = told.ends
        starts = (0, *ends)
        self.assertEqual(ends[-1], len(points.points))
        self.assertEqual((len(told.polys), len(told.bars)), (len(ends), len(ends) - 1))
        for first, last, poly in zip(starts, ends, told.polys):
            self.assertLessEqual(poly.degree(), degree)
            self.assertLessEqual(error_with(part(points, first, last), poly), e)
        for first, last, bar in zip(starts, ends[:-1], told.bars):
            number = barred(part(points, first, last + 1), tuple(range(degree + 1)), bar)
            self.assertGreater(fraction(number), e)

    def test_fewest_runs(self):
        for points in (WEIGHTED, SQUARES, LINE, SMALL, ALONE):
            for degree in (0, 1, 2, 4):
                errors = errors_of_runs(points, degree)
                some = sorted(set(errors.values()))
                tiny = Fraction(1, 10 ** 9)
                for e in {0, tiny, *some, *[item + tiny for item in some], *[max(0, item - tiny) for item in some]}:
                    told = fewest_runs(points, degree, pair(e))
                    self.runs_hold(points, degree, e, told)
                    right = [ends for ends in divisions(len(points.points)) if greatest_of(errors, ends) <= e]
                    fewest = min(len(ends) for ends in right)
                    # As long as possible one after the other is the greatest one in the order of tuples.
                    self.assertEqual(told.ends, max(ends for ends in right if len(ends) == fewest))

    def test_best_runs_and_steps(self):
        for points in (WEIGHTED, SQUARES, LINE, SMALL, ALONE):
            for degree in (0, 1, 2, 3):
                many_points = len(points.points)
                errors = errors_of_runs(points, degree)
                steps = []
                for many in (*range(1, many_points + 3), 10 ** 30):
                    told = best_runs(points, degree, many)
                    self.assertIsInstance(told, BestRuns)
                    error = min(greatest_of(errors, ends) for ends in divisions(many_points) if len(ends) <= many)
                    self.assertTrue(is_told_ratio(told.error))
                    self.assertEqual(fraction(told.error), error)
                    self.assertEqual(told.ends, fewest_runs(points, degree, told.error).ends)
                    self.assertEqual(len(told.polys), len(told.ends))
                    for first, last, poly in zip((0, *told.ends), told.ends, told.polys):
                        self.assertLessEqual(poly.degree(), degree)
                        self.assertLessEqual(error_with(part(points, first, last), poly), error)
                    if error == 0:
                        self.assertEqual(told.chain, ())
                    else:
                        self.assertEqual(len(told.chain), many)
                        start = 0
                        for first, last in told.chain:
                            self.assertEqual(first, start)
                            self.assertGreaterEqual(errors[first, last], error)
                            start = last - 1
                    if not steps or fraction(steps[-1][1]) != error:
                        steps.append((many, told.error))
                self.assertEqual(error_steps(points, degree), tuple(steps))
                self.assertEqual(steps[-1][1], (0, 1))

    def test_all_steps_of_squares(self):
        self.assertEqual(error_steps(SQUARES, 2), ((1, (0, 1)),))
        self.assertEqual(error_steps(ALONE, 0), ((1, (0, 1)),))
        self.assertEqual(error_steps(SQUARES, 0)[0], (1, (18, 1)))
        self.assertEqual(error_steps(SQUARES, 0)[-1], (7, (0, 1)))

    def test_sizes(self):
        random = Random(49)
        xs = sorted({Fraction(random.randrange(-10 ** 58, 10 ** 58), random.randrange(10 ** 57, 10 ** 58)) for _ in range(40)})
        many = [pair(Fraction(random.randrange(10 ** 60), random.randrange(1, 10 ** 60))) for _ in xs]
        points = Points([pair(x) for x in xs], many)
        told = best_runs(points, 2, 5)
        self.runs_hold(points, 2, fraction(told.error), fewest_runs(points, 2, told.error))
        below = pair(fraction(told.error) - Fraction(1, 10 ** 90))
        self.assertGreater(len(fewest_runs(points, 2, below).ends), 5)
        self.assertGreaterEqual(min(fraction(run_error(points, 2, run)) for run in told.chain), fraction(told.error))
        steps = error_steps(points, 0)
        self.assertEqual(steps[-1][1], (0, 1))
        short = part(points, 0, 12)
        told = best_runs(short, 7, 1)
        self.assertEqual(told.error, run_error(short, 7, (0, 12)))
        self.runs_hold(short, 7, fraction(told.error) / 2, fewest_runs(short, 7, pair(fraction(told.error) / 2)))

    def test_errors_in_their_order(self):
        for degree in NO_DEGREES:
            self.bad("degree", degree, run_error, WEIGHTED, degree, None)
            self.bad("degree", degree, fewest_runs, WEIGHTED, degree, -1)
            self.bad("degree", degree, best_runs, WEIGHTED, degree, 0)
            self.bad("degree", degree, error_steps, WEIGHTED, degree)
        for e in NO_RATIOS + [-1, (-1, 10 ** 9)]:
            self.bad("e", e, fewest_runs, WEIGHTED, 1, e)
        for many in (0, -1, True, None, "2", (2, 1), 2.0):
            self.bad("many", many, best_runs, WEIGHTED, 1, many)
        no_runs = (
            None, 3, (), (1,), (1, 2, 3), (0, 0), (2, 1), (-1, 2), (0, 9), (0, True), (False, 2), "01", {0: 1, 1: 2}, [1, 1],
            ((0, 1), (2, 1)), Poly((1,)), 1.5, (0.0, 2),
        )
        for run in no_runs:
            self.bad_row(run, run_error, WEIGHTED, 1, run)
        self.assertEqual(run_error(WEIGHTED, 1, (7, 8)), (0, 1))


class TestJoined(Asking):
    def basis(self, breaks, degree, smooth):
        """All functions of the document's fact, as functions of a Fraction."""
        found = [lambda x, k=k: x ** k for k in range(degree + 1)]
        for item in map(fraction, breaks):
            found.extend([lambda x, k=k, b=item: (x - b) ** k if x > b else Fraction(0) for k in range(smooth + 1, degree + 1)])
        return found

    def joined_holds(self, points, breaks, degree, smooth, told):
        self.assertIsInstance(told, Joined)
        self.assertIsInstance(told.pieces, Pieces)
        ends = [fraction(points.points[0]), *map(fraction, breaks), fraction(points.points[-1])]
        self.assertEqual([fraction(knot) for knot in told.pieces.knots], ends)
        for knot, one, other in zip(ends[1:], told.pieces.polys, told.pieces.polys[1:]):
            for _ in range(smooth + 1):
                self.assertEqual(worth(one, knot), worth(other, knot))
                one, other = one.slope(), other.slope()
        self.assertTrue(all(poly.degree() <= degree for poly in told.pieces.polys))
        error = Fraction(0)
        rows = list(zip(map(fraction, points.points), map(fraction, points.numbers), map(fraction, points.weights)))
        for x, number, weight in rows:
            place = next(k for k in range(len(ends) - 1) if x <= ends[k + 1])
            error = max(error, weight * abs(worth(told.pieces.polys[place], x) - number))
        self.assertTrue(is_told_ratio(told.error))
        self.assertEqual(fraction(told.error), error)
        self.assertIs(type(told.shares), tuple)
        self.assertEqual([index for index, _ in told.shares], sorted({index for index, _ in told.shares}))
        shares = [(rows[index], fraction(share)) for index, share in told.shares]
        for function in self.basis(breaks, degree, smooth):
            self.assertEqual(sum(share * function(x) for (x, _, _), share in shares), 0)
        self.assertLessEqual(sum(abs(share) / weight for (_, _, weight), share in shares), 1)
        self.assertEqual(sum(share * number for (_, number, _), share in shares), error)

    def test_joined(self):
        cases = (
            (WEIGHTED, ((), (0,), ((-1, 2), (3, 4)), ((-5, 2), (-1, 4), 1, (9, 4)))),
            (SQUARES, ((), (3,), ((1, 4), (1, 3), (1, 2), 1))),
            (SMALL, ((), ((1, 2),), ((1, 3), (1, 2)))),
            (LINE, ([2], [[1, 2], (10, 4)])),
        )
        for points, rows in cases:
            for breaks in rows:
                for degree in range(1, 7):
                    for smooth in range(degree):
                        told = joined(points, breaks, degree, smooth)
                        self.joined_holds(points, breaks, degree, smooth, told)
                        self.assertIs(is_joined(points, breaks, degree, smooth, told), True)
        self.assertEqual(joined(SQUARES, (3,), 2, 1).error, (0, 1))
        self.assertEqual(joined(SQUARES, (3,), 2, 1).shares, ())
        self.assertEqual(joined(Points((0, 1, 2, 3, 4), (2, 1, 0, 1, 2)), (2,), 1, 0).error, (0, 1))
        # Without breaks joined pieces are polynomials.
        self.assertEqual(joined(WEIGHTED, (), 2, 0).error, run_error(WEIGHTED, 2, (0, 8)))

    def test_is_joined_with_one_thing_changed(self):
        breaks = ((-1, 2), 1)
        told = joined(WEIGHTED, breaks, 2, 1)
        self.assertGreater(len(told.shares), 2)

        def judged(pieces=told.pieces, error=told.error, shares=told.shares, breaks=breaks, degree=2, smooth=1, points=WEIGHTED):
            return is_joined(points, breaks, degree, smooth, Joined(pieces, error, shares))

        self.assertIs(judged(), True)
        knots, polys = told.pieces.knots, told.pieces.polys
        self.assertTrue(judged(error=(told.error[0] * 3, told.error[1] * 3)))
        self.assertTrue(judged(shares=tuple((index, (part[0] * 2, part[1] * 2)) for index, part in told.shares)))
        self.assertFalse(judged(pieces=Pieces(knots, [poly + 1 for poly in polys])))
        self.assertFalse(judged(pieces=Pieces(knots[:2] + ((1, 7),) + knots[2:], polys[:2] + polys[1:])))
        self.assertFalse(judged(pieces=Pieces(((-4, 1),) + knots[1:], polys)))
        self.assertFalse(judged(degree=1, smooth=0))
        self.assertFalse(judged(smooth=0))
        self.assertFalse(judged(breaks=((-1, 2), (3, 2))))
        self.assertFalse(judged(points=Points(WEIGHTED.points, WEIGHTED.numbers)))
        for error in (0, None, True, (told.error[0] + 1, told.error[1]), 1.5, "1"):
            self.assertFalse(judged(error=error))
        first, rest = told.shares[0], told.shares[1:]
        for shares in (
            (), rest, rest + (first,), told.shares + (told.shares[-1],), ((first[0], list(first[1])),) + rest, None, 7, "",
            ((first[0], (-first[1][0], first[1][1])),) + rest, ((True, first[1]),) + rest, ((first[0],),) + rest,
            tuple((index, (-part[0], part[1])) for index, part in told.shares), [list(row) for row in told.shares],
            tuple((index, (part[0], 2 * part[1])) for index, part in told.shares), ((first[0], (0, 1)),) + rest,
            ((99, first[1]),) + rest, tuple((index + 1, part) for index, part in told.shares),
        ):
            self.assertIs(judged(shares=shares), False, shares)
        for pieces in (None, 1, Poly((1,)), polys, Joined(1, 2, 3)):
            self.assertIs(judged(pieces=pieces), False)
        for value in (None, True, 0, (), [], "", told.pieces, BestRuns(1, 2, 3, 4), Poly(()), {}):
            self.assertIs(is_joined(WEIGHTED, breaks, 2, 1, value), False)

    def test_less_smooth_pieces_are_not_joined(self):
        points = Points((0, 1, 2, 3, 4), (2, 1, 0, 1, 2))
        told = joined(points, (2,), 2, 0)
        self.assertEqual(told.error, (0, 1))
        bent = Joined(Pieces((0, 2, 4), (Poly((2, -1)), Poly((-2, 1)))), 0, ())
        self.assertIs(is_joined(points, (2,), 2, 0, bent), True)
        self.assertIs(is_joined(points, (2,), 2, 1, bent), False)
        self.assertIs(is_joined(points, (2,), 1, 0, bent), True)

    def test_errors_in_their_order(self):
        for function, more in ((joined, ()), (is_joined, (None,))):
            for degree in (0, 7, -1, True, None, "2", (2, 1)):
                self.bad("degree", degree, function, ALONE, None, degree, -1, *more)
            for smooth in (-1, 2, True, None, "0", (0, 1)):
                self.bad("smooth", smooth, function, ALONE, None, 2, smooth, *more)
            no_breaks = (
                None, 3, "", (0, 0), (1, 0), (-3,), ((5, 2),), (-4, 0), (0, 3), (0, 1, True), (0, "1"), ((1, 0),), {0: 1},
                ((1, 2), (2, 4)), [0, None], Poly((1,)),
            )
            for breaks in no_breaks:
                self.bad_row(breaks, function, WEIGHTED, breaks, 2, 1, *more)
            self.bad_row((3,), function, ALONE, (3,), 2, 1, *more)
            with self.assertRaises(Fewer) as caught:
                function(ALONE, (), 2, 1, *more)
            self.assertEqual(caught.exception.what, "points")
        self.bad("degree", 0, is_joined, ALONE, None, 0, -1, joined(LINE, (), 1, 0))

    def test_sizes(self):
        random = Random(50)
        xs = sorted({Fraction(random.randrange(-10 ** 60, 10 ** 60), random.randrange(10 ** 59, 10 ** 60)) for _ in range(24)})
        many = [pair(Fraction(random.randrange(10 ** 60), random.randrange(10 ** 59, 10 ** 60))) for _ in xs]
        points = Points([pair(x) for x in xs], many)
        breaks = [points.points[5], pair((xs[9] + xs[10]) / 2), points.points[14], pair((xs[18] + xs[19]) / 2)]
        told = joined(points, breaks, 3, 2)
        self.joined_holds(points, breaks, 3, 2, told)
        self.assertIs(is_joined(points, breaks, 3, 2, told), True)
        random = Random(51)
        short = Points(tuple(range(24)), [random.randrange(100) for _ in range(24)])
        told = joined(short, (4, (17, 2), 13, 19), 6, 3)
        self.joined_holds(short, (4, (17, 2), 13, 19), 6, 3, told)


class TestJudgesOfJoined(Asking):
    def test_shares_for_all_joined_pieces(self):
        # All numbers are 0, so nothing is asked of shares but that all joined pieces have the sum 0.
        points = Points(tuple(range(7)), (0,) * 7)
        none = Pieces((0, 3, 6), (Poly(()), Poly(())))
        for shares, is_right in (
            ((), True), (((0, (1, 4)), (1, (-1, 2)), (2, (1, 4))), True), (((2, (1, 4)), (3, (-1, 2)), (4, (1, 4))), False),
            (((3, (1, 4)), (4, (-1, 2)), (5, (1, 4))), True), (((0, (1, 4)), (1, (-1, 4))), False), (((0, 1), (1, -2), (2, 1)), False),
        ):
            self.assertIs(is_joined(points, (3,), 1, 0, Joined(none, 0, shares)), is_right, shares)
        # For slopes that are equal, too, more shares will do.
        smooth = ((1, (1, 16)), (2, (-3, 16)), (3, (3, 16)), (4, (-1, 16)))
        self.assertIs(is_joined(points, (3,), 2, 0, Joined(none, 0, smooth)), False)
        self.assertIs(is_joined(points, (3,), 2, 1, Joined(none, 0, smooth)), False)
        self.assertIs(is_joined(points, (4,), 2, 1, Joined(Pieces((0, 4, 6), none.polys), 0, smooth)), True)

    def test_degrees_of_pieces(self):
        points = Points((0, 1, 2), (0, 0, 0))
        self.assertIs(is_joined(points, (), 1, 0, Joined(Pieces((0, 2), (Poly(()),)), 0, ())), True)
        self.assertIs(is_joined(points, (), 1, 0, Joined(Pieces((0, 2), (Poly((0, 2, -3, 1)),)), 0, ())), False)
        self.assertIs(is_joined(points, (), 3, 0, Joined(Pieces((0, 2), (Poly((0, 2, -3, 1)),)), 0, ())), True)


class TestClasses(Asking):
    def test_they_keep_what_they_are_given(self):
        self.keep_what_they_are_given({
            Runs: ("ends", "polys", "bars"), BestRuns: ("error", "ends", "polys", "chain"),
            Joined: ("pieces", "error", "shares"),
        })

    def test_where_they_are_defined(self):
        self.are_defined_in(
            runs, "Runs", "BestRuns", "Joined", "run_error", "fewest_runs", "best_runs", "error_steps", "joined", "is_joined",
        )


if __name__ == "__main__":
    unittest.main()
