"""Functions in as few pieces as an error needs."""

import unittest
from fractions import Fraction

from checking import moments_vanish, paper_holds, tail_by_sum, value_near
from helping import NO_BITS, NO_RATIOS, Asking, fraction, pair

from nearcurves import cuts
from nearcurves.cuts import BarredPiece, Cuts, are_cuts, least_pieces
from nearcurves.errors import BadInterval, Pole, TooWide
from nearcurves.errors_of import Paper
from nearcurves.functions import Mixed, Pieces, Quotient, sums
from nearcurves.intervalfits import Bar, bar_number
from nearcurves.polys import Poly
from nearcurves.rows import atan_row, exp_row, log_row, power_row, scaled, sin_row

ONE = Poly((1,))
EXP = Mixed(Poly(()), [(ONE, exp_row())])
BOTH = Mixed(Poly((0, 1)), [(Poly((1, 1)), sin_row()), (ONE, scaled(atan_row(), (1, 4)))])
ENDING = Mixed(Poly((1,)), [(Poly((0, 1)), power_row(5))])
RUNGE = Quotient(Poly((-1,)), Poly((-1, 0, -9)))
BENT = Pieces((-3, (-1, 3), (5, 4), 3), (Poly((0, -3)), ONE, Poly(((-3, 2), 2))))
CUBE = Poly((0, 0, 0, 1))
KNOTS = tuple((k, 4) for k in range(-6, 7))
UNEVEN = (-2, (-3, 2), (-1, 2), 0, (1, 8), (1, 2), 2)
FUNCTIONS = (EXP, BOTH, ENDING, RUNGE, BENT, CUBE, ONE)


def number_of_bar(function, powers, low, high, bar):
    """The number of a bar, by its sums; it is checked that it is one."""
    assert type(bar.rows) is tuple and all(type(row) is tuple for row in bar.rows)
    points = [fraction(point) for point, _ in bar.rows]
    assert points == sorted(set(points)) and fraction(low) <= points[0] and points[-1] <= fraction(high)
    assert moments_vanish(bar.rows, powers)
    assert sum(abs(fraction(share)) for _, share in bar.rows) == 1 and all(fraction(share) != 0 for _, share in bar.rows)
    if isinstance(function, Mixed):
        total = sum(fraction(share) * fraction(sums(function, bar.terms).at(point)) for point, share in bar.rows)
        return total - tail_by_sum(function, low, high, bar.terms)
    assert bar.terms == 0
    return sum(fraction(share) * value_near(function, fraction(point))[0] for point, share in bar.rows)


class TestPieces(Asking):
    def cuts_hold(self, function, degree, e, knots, bits, told):
        powers = tuple(range(degree + 1))
        least = fraction(e) - Fraction(1, 2 ** bits)
        if isinstance(told, BarredPiece):
            low, high = knots[told.index], knots[told.index + 1]
            self.assertGreater(number_of_bar(function, powers, low, high, told.bar), least)
            return
        self.assertIsInstance(told, Cuts)
        many = len(told.breaks) - 1
        self.assertEqual((told.breaks[0], told.breaks[-1]), (0, len(knots) - 1))
        self.assertEqual(list(told.breaks), sorted(set(told.breaks)))
        self.assertEqual((len(told.polys), len(told.papers), len(told.bars)), (many, many, many - 1))
        for first, last, poly, paper in zip(told.breaks, told.breaks[1:], told.polys, told.papers):
            self.assertLessEqual(poly.degree(), degree)
            self.assertTrue(paper_holds(paper, poly, function, knots[first], knots[last], e))
        for first, last, bar in zip(told.breaks, told.breaks[1:], told.bars):
            self.assertGreater(number_of_bar(function, powers, knots[first], knots[last + 1], bar), least)

    def test_least_pieces(self):
        kinds = set()
        for function in FUNCTIONS:
            for knots in (KNOTS, UNEVEN, (-1, 1), [[-1, 1], 0, (1, 2)]):
                for degree, e, bits in ((0, (1, 2), 4), (1, (1, 50), 20), (2, (1, 1000), 0), (3, (1, 4000), 30), (0, 30, 60)):
                    told = least_pieces(function, degree, e, knots, bits)
                    kinds.add((type(told), len(getattr(told, "breaks", ())) > 2))
                    self.cuts_hold(function, degree, e, knots, bits, told)
                    self.assertIs(are_cuts(function, degree, e, knots, bits, told), True)
        self.assertEqual(kinds, {(Cuts, False), (Cuts, True), (BarredPiece, False)})

    def test_what_is_known(self):
        # |x| and lines: one knot at 0 is enough, without it no line is nearer than half.
        size = Pieces((-1, 0, 1), (Poly((0, -1)), Poly((0, 1))))
        self.assertEqual(least_pieces(size, 1, (1, 10 ** 6), (-1, 0, 1), 40).breaks, (0, 1, 2))
        self.assertEqual(least_pieces(size, 1, (1, 2), (-1, 0, 1), 40).breaks, (0, 2))
        answer = least_pieces(size, 1, (49, 100), (-1, 1), 40)
        self.assertIsInstance(answer, BarredPiece)
        self.assertEqual(answer.index, 0)
        # x with constants: the error of a piece is half of its length.
        steps = least_pieces(Poly((0, 1)), 0, (4, 25), tuple((k, 10) for k in range(11)), 20)
        self.assertEqual(len(steps.breaks), 5)
        self.assertEqual(least_pieces(Poly((0, 1)), 0, (1, 2), (0, 1, (5, 2), 3), 20).index, 1)
        self.assertEqual(least_pieces(CUBE, 3, (1, 10 ** 30), KNOTS, 60).breaks, (0, 12))

    def test_gaps(self):
        # The least error of x * x and lines on an interval of the length 1 is 1/8.
        square = Poly((0, 0, 1))
        for bits in (0, 3, 10, 60):
            gap = Fraction(1, 2 ** bits)
            for e in (Fraction(1, 8), Fraction(1, 8) + gap / 4, Fraction(1, 8) + gap * 3 / 4, Fraction(1, 8) + gap * 2):
                told = least_pieces(square, 1, pair(e), (0, 1, 2), bits)
                self.cuts_hold(square, 1, pair(e), (0, 1, 2), bits, told)
                self.assertIs(are_cuts(square, 1, pair(e), (0, 1, 2), bits, told), True)
            told = least_pieces(square, 1, pair(Fraction(1, 8) - Fraction(1, 10 ** 20)), (0, 1, 2), bits)
            self.assertIs(are_cuts(square, 1, pair(Fraction(1, 8) - Fraction(1, 10 ** 20)), (0, 1, 2), bits, told), True)
            self.assertIsInstance(told, BarredPiece)

    def test_are_cuts_with_one_thing_changed(self):
        degree, bits = 1, 20
        for function, e in ((EXP, (1, 50)), (RUNGE, (1, 12)), (BENT, (1, 8))):
            told = least_pieces(function, degree, e, KNOTS, bits)
            self.assertGreater(len(told.breaks), 2)

            def judged(breaks=told.breaks, polys=told.polys, papers=told.papers, bars=told.bars, e=e, degree=degree):
                return are_cuts(function, degree, e, KNOTS, bits, Cuts(breaks, polys, papers, bars))

            self.assertIs(judged(), True)
            moved = (told.breaks[0], told.breaks[1] + 1, *told.breaks[2:])
            for breaks in (
                None, (), (0,), told.breaks[:-1], told.breaks[1:], (0, 0, *told.breaks[1:]), moved, told.breaks + (13,), "ab", 3,
                (False, *told.breaks[1:]), tuple((index, 1) for index in told.breaks),
            ):
                self.assertIs(judged(breaks=breaks), False, breaks)
            for polys in (
                told.polys[:-1], told.polys[::-1], (told.polys[0] + 1, *told.polys[1:]), None, (None,) * len(told.polys),
                (told.polys[0] + Poly((0, 0, (1, 10 ** 9))), *told.polys[1:]),
            ):
                self.assertIs(judged(polys=polys), False)
            wrong = Paper(0, 1, 2)
            for papers in (told.papers[::-1], told.papers[1:], (wrong, *told.papers[1:]), (), None, told.papers + told.papers):
                self.assertIs(judged(papers=papers), False)
            turned = Bar(told.bars[0].terms, tuple((point, (-part[0], part[1])) for point, part in told.bars[0].rows))
            for bars in (
                told.bars[1:], told.bars + told.bars[:1], (turned, *told.bars[1:]), (None, *told.bars[1:]), None, (),
                (Bar(told.bars[0].terms, list(told.bars[0].rows)[1:]), *told.bars[1:]),
            ):
                self.assertIs(judged(bars=bars), False)
            self.assertIs(judged(e=(1, 100)), False)
            self.assertIs(judged(e=(1, 5)), False)
            for value in (None, True, 7, "", (), [], told.breaks, Poly(()), Paper(1, 2, 3), {}):
                self.assertIs(are_cuts(function, degree, e, KNOTS, bits, value), False)

    def test_are_cuts_of_barred_pieces(self):
        e, degree, bits = (1, 1000), 0, 20
        told = least_pieces(EXP, degree, e, KNOTS, bits)
        self.assertIsInstance(told, BarredPiece)
        bar = told.bar
        for index in (-1, 12, 1, True, None, (0, 1), "0"):
            self.assertIs(are_cuts(EXP, degree, e, KNOTS, bits, BarredPiece(index, bar)), False)
        rows = bar.rows
        for changed in (
            None, (), Bar(bar.terms, ()), Bar(bar.terms, rows[1:]), Bar(0, rows), Bar(bar.terms, rows[::-1]),
            Bar(bar.terms, tuple((point, (-part[0], part[1])) for point, part in rows)),
        ):
            self.assertIs(are_cuts(EXP, degree, e, KNOTS, bits, BarredPiece(0, changed)), False)
        self.assertIs(are_cuts(EXP, degree, e, KNOTS, bits, BarredPiece(0, bar)), True)
        self.assertIs(are_cuts(EXP, degree, 1, KNOTS, bits, BarredPiece(0, bar)), False)
        # The number is to be above e less the gap: just there it is not.
        number = fraction(bar_number(EXP, (0,), KNOTS[0], KNOTS[1], bar))
        for bits in (0, 7, 20):
            just = number + Fraction(1, 2 ** bits)
            self.assertIs(are_cuts(EXP, degree, pair(just), KNOTS, bits, BarredPiece(0, bar)), False)
            self.assertIs(are_cuts(EXP, degree, pair(just - Fraction(1, 10 ** 30)), KNOTS, bits, BarredPiece(0, bar)), True)

    def test_are_cuts_with_a_piece_more_or_less(self):
        arguments = (EXP, 2, (1, 1000), KNOTS, 20)
        told = least_pieces(*arguments)
        rows = [told.breaks, told.polys, told.papers, told.bars]
        self.assertIs(are_cuts(*arguments, Cuts(*rows)), True)
        self.assertIs(are_cuts(*arguments, Cuts(*[row[1:] for row in rows])), False)
        self.assertIs(are_cuts(*arguments, Cuts(*[row[:-1] for row in rows])), False)
        self.assertIs(are_cuts(*arguments, Cuts(*[(row[0], *row) for row in rows])), False)
        self.assertIs(are_cuts(*arguments, Cuts(*[(*row, row[-1]) for row in rows])), False)

    def test_errors_in_their_order(self):
        far = (-4, 0, (7, 2))
        pole = Quotient(ONE, Poly((0, 1)))
        wide = Mixed(Poly(()), [(ONE, log_row())])
        for function, more in ((least_pieces, ()), (are_cuts, (None,))):
            for degree in (-1, 13, True, None, "1", (1, 1)):
                self.bad("degree", degree, function, EXP, degree, 0, (), -1, *more)
            for e in NO_RATIOS + [0, -1, (0, 5), (-1, 3)]:
                self.bad("e", e, function, EXP, 1, e, (), -1, *more)
            for knots in (None, 3, "", (), (1,), (1, 1), (1, 0), (0, True), ((1, 2), (2, 4)), (0, (1, 0)), {0: 1, 1: 2}, Poly((1,))):
                self.bad_row(knots, function, EXP, 1, 1, knots, -1, *more)
            for bits in NO_BITS:
                self.bad("bits", bits, function, BENT, 1, 1, far, bits, *more)
            for knots, low, high in ((far, (-4, 1), (7, 2)), ([[-8, 2], 3], (-4, 1), (3, 1)), ((-3, 4), (-3, 1), (4, 1))):
                with self.assertRaises(BadInterval) as caught:
                    function(BENT, 1, 1, knots, 2, *more)
                self.assertEqual((caught.exception.low, caught.exception.high), (low, high))
            with self.assertRaises(Pole):
                function(pole, 1, 1, (-1, (1, 3), 1), 2, *more)
            with self.assertRaises(TooWide):
                function(wide, 1, 1, (0, (1, 3), (2, 3)), 2, *more)
            self.bad("bits", 61, function, wide, 1, 1, (0, 1), 61, *more)
        self.assertIsInstance(least_pieces(pole, 1, 1, ((1, 3), 1), 2), Cuts)

    def test_sizes(self):
        many = tuple((k, 8) for k in range(-10, 10))
        for function, degree, e, bits in ((EXP, 6, (1, 10 ** 10), 40), (BOTH, 4, (1, 10 ** 6), 24), (RUNGE, 6, (1, 10 ** 5), 60)):
            told = least_pieces(function, degree, e, many, bits)
            self.assertIsInstance(told, Cuts)
            self.cuts_hold(function, degree, e, many, bits, told)
            self.assertIs(are_cuts(function, degree, e, many, bits, told), True)


class TestClasses(Asking):
    def test_they_keep_what_they_are_given(self):
        self.keep_what_they_are_given({Cuts: ("breaks", "polys", "papers", "bars"), BarredPiece: ("index", "bar")})

    def test_where_they_are_defined(self):
        self.are_defined_in(cuts, "Cuts", "BarredPiece", "least_pieces", "are_cuts")


if __name__ == "__main__":
    unittest.main()
