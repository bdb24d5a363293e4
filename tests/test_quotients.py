"""Quotients of polynomials on points and on intervals."""

import unittest
from fractions import Fraction
from random import Random

from checking import is_told_ratio, parts_of, papers_and_terms, split_holds, sums_by_terms, tail_by_sum, value_near, worth
from helping import NO_BITS, NO_INTERVALS, NO_RATIOS, Asking, fraction, pair

from nearcurves import quotients
from nearcurves.errors import BadInterval, Pole, TooWide
from nearcurves.errors_of import Beyond, Near, Paper, Within
from nearcurves.functions import Mixed, Pieces, Quotient, least_terms
from nearcurves.pointfits import Points, nearest
from nearcurves.polys import Poly
from nearcurves.quotients import (
    Bars, Fit, Possible, error_on, frontier, is_bars, is_fit, least_possible, possible, quotient_within, shows_quotient,
)
from nearcurves.rows import atan_row, exp_row, log_row, power_row
from nearcurves.signs import Split

ONE = Poly((1,))
X = Poly((0, 1))
# The values of (1 + 2 x) / (3 + x * x), and others.
TRUE_TOP, TRUE_BOTTOM = Poly((1, 2)), Poly((3, 0, 1))
PLANTED = Points((-2, -1, 0, (1, 2), 1, 3), ((-3, 7), (-1, 4), (1, 3), (8, 13), (3, 4), (7, 12)), (1, 2, (1, 2), 3, 1, 1))
SOME = Points((-2, -1, 0, 1, 2, 3), (5, 1, 0, (1, 2), 3, -1), (1, 1, 2, (1, 3), 1, 1))
PAIR = Points((0, 1), (0, 3))
ALONE = Points((4,), ((-1, 3),), (7,))
NO_DEGREES = [-1, 13, True, None, "1", (1, 1), 1.0]


def fit_holds(points, m, n, e, fit):
    """Whether a Fit has the degrees, a bottom from 1 on, and an error of at most e."""
    if fit.top.degree() > m or fit.bottom.degree() > n:
        return False
    for x, number, weight in zip(map(fraction, points.points), map(fraction, points.numbers), map(fraction, points.weights)):
        below = worth(fit.bottom, x)
        if below < 1 or weight * abs(number - worth(fit.top, x) / below) > e:
            return False
    return True


def bars_hold(points, m, n, e, bars):
    """Whether Bars have the sums that bar e."""
    rows = list(zip(map(fraction, points.points), map(fraction, points.numbers), map(fraction, points.weights)))
    if type(bars.shares) is not tuple or len(bars.shares) != len(rows):
        return False
    shares = [tuple(map(fraction, row)) for row in bars.shares]
    if any(len(row) != 3 or min(row) < 0 for row in shares) or sum(row[2] for row in shares) <= 0:
        return False
    for j in range(m + 1):
        if sum(w * (a - b) * x ** j for (x, f, w), (a, b, c) in zip(rows, shares)) != 0:
            return False
    for j in range(n + 1):
        if sum((a * (e - w * f) + b * (e + w * f) + c) * x ** j for (x, f, w), (a, b, c) in zip(rows, shares)) != 0:
            return False
    return True


def quotient_paper_holds(paper, top, bottom, function, low, high, e):
    papers, terms = papers_and_terms(paper, function)
    parts = parts_of(function, low, high, terms) if papers is not None else []
    if papers is None or len(papers) != len(parts):
        return False
    sign = 1 if worth(bottom, fraction(low)) > 0 else -1
    top, bottom = top * sign, bottom * sign
    room = pair(fraction(e) - tail_by_sum(function, low, high, terms))
    for item, (part_top, part_bottom, left, right) in zip(papers, parts):
        difference = part_top * bottom - top * part_bottom
        whole = bottom * part_bottom * room
        if not split_holds(whole - difference, left, right, item.above):
            return False
        if not split_holds(whole + difference, left, right, item.under):
            return False
    return True


class TestPossible(Asking):
    def answer_holds(self, points, m, n, e):
        told = possible(points, m, n, pair(e))
        if isinstance(told, Fit):
            self.assertTrue(fit_holds(points, m, n, e, told))
            self.assertIs(is_fit(points, m, n, pair(e), told), True)
            self.assertIs(is_bars(points, m, n, pair(e), told), False)
            return True
        self.assertIsInstance(told, Bars)
        self.assertTrue(bars_hold(points, m, n, e, told))
        self.assertIs(is_bars(points, m, n, pair(e), told), True)
        self.assertIs(is_fit(points, m, n, pair(e), told), False)
        return False

    def test_error_on(self):
        self.assertEqual(error_on(PLANTED, TRUE_TOP, TRUE_BOTTOM), (0, 1))
        self.assertEqual(error_on(PLANTED, TRUE_TOP * 5, TRUE_BOTTOM * 5), (0, 1))
        self.assertEqual(error_on(SOME, Poly(()), ONE), (5, 1))
        self.assertEqual(error_on(ALONE, Poly((1,)), Poly((0, 1))), (49, 12))
        for bottom in (Poly(()), -ONE, X, Poly((2, 1)), Poly((-1, 1)), -TRUE_BOTTOM, Poly((1, -1))):
            with self.assertRaises(Pole):
                error_on(SOME, ONE, bottom)
        # A bottom that is below 0 between points alone fits.
        self.assertEqual(error_on(PAIR, Poly((0, 3)), Poly((1, -5, 5))), (0, 1))

    def test_below_at_and_above_the_least_error_of_polynomials(self):
        for points in (PLANTED, SOME, PAIR, ALONE):
            for m in range(5):
                least = fraction(nearest(points, tuple(range(m + 1))).error)
                for e in (least, least / 2, least * 2, least + Fraction(1, 10 ** 20), max(0, least - Fraction(1, 10 ** 20))):
                    self.assertIs(self.answer_holds(points, m, 0, e), e >= least)

    def test_greater_degrees(self):
        for points in (PLANTED, SOME, PAIR, ALONE):
            for m in range(5):
                for n in range(5):
                    for e in (0, Fraction(1, 50), Fraction(1, 3), 1, 10):
                        answer = self.answer_holds(points, m, n, e)
                        if answer and n < 4:
                            self.assertIsInstance(possible(points, m, n + 1, pair(e)), Fit)
                            self.assertIsInstance(possible(points, m + 1, n, pair(e)), Fit)
        self.assertTrue(self.answer_holds(PLANTED, 1, 2, 0))
        self.assertFalse(self.answer_holds(PLANTED, 0, 2, 0))
        # 0 and 3 with the top a constant: |0 - p / q| and |3 - p / q| may come as near to 0 and 3 as one likes, not to both.
        self.assertFalse(self.answer_holds(PAIR, 0, 1, 0))
        self.assertTrue(self.answer_holds(PAIR, 0, 1, Fraction(1, 10 ** 12)))
        self.assertIsInstance(possible(PLANTED, 12, 12, 0), Fit)

    def test_judges_with_one_thing_changed(self):
        e = (1, 3)
        fit = possible(SOME, 3, 2, e)
        self.assertIsInstance(fit, Fit)
        for top, bottom in (
            (fit.top + 9, fit.bottom), (fit.top, fit.bottom - 9), (fit.top * (1, 2), fit.bottom * (1, 10 ** 9)), (None, ONE),
            (fit.top, None), (fit.top * Poly((0, 1)), fit.bottom), (1, 2), (fit.bottom, fit.top),
        ):
            self.assertIs(is_fit(SOME, 3, 2, e, Fit(top, bottom)), False)
        self.assertIs(is_fit(SOME, 3, 2, e, Fit(fit.top * 7, fit.bottom * 7)), True)
        self.assertIs(is_fit(SOME, 2, 2, e, fit), fit.top.degree() <= 2)
        self.assertIs(is_fit(SOME, 3, 2, (1, 10 ** 9), fit), False)
        bars = possible(SOME, 1, 1, e)
        self.assertIsInstance(bars, Bars)
        rows = bars.shares
        index = next(k for k, row in enumerate(rows) if row[0] != (0, 1) or row[1] != (0, 1))
        changed = [
            rows[:-1], rows + rows[-1:], rows[::-1], (), None, 3, "abcdef", tuple(row[:2] for row in rows),
            tuple(row + ((0, 1),) for row in rows), tuple(((0, 1), (0, 1), (0, 1)) for _ in rows),
            tuple((b, a, c) for a, b, c in rows), tuple((a, b, (0, 1)) for a, b, c in rows),
            tuple(tuple((-top, bottom) for top, bottom in row) for row in rows), tuple(list(row) for row in rows),
            rows[:index] + (([1, 1], (1, 1), (1, 1)),) + rows[index + 1:], rows[:index] + (None,) + rows[index + 1:],
            rows[:index] + ((True, 0, 0),) + rows[index + 1:], rows[:index] + (((1, 0), 0, 0),) + rows[index + 1:],
        ]
        for shares in changed:
            self.assertIs(is_bars(SOME, 1, 1, e, Bars(shares)), False, shares)
        twice = tuple(tuple((6 * top, 3 * bottom) for top, bottom in row) for row in rows)
        self.assertIs(is_bars(SOME, 1, 1, e, Bars(twice)), True)
        self.assertIs(is_bars(SOME, 1, 0, e, bars), True)
        self.assertIs(is_bars(SOME, 2, 2, e, bars), False)
        self.assertIs(is_bars(SOME, 1, 1, (1, 4), bars), False)
        self.assertIs(is_bars(PLANTED, 1, 1, e, bars), False)
        for value in (None, True, 0, (), [], "", rows, Possible(1, fit, bars), ONE, {}):
            self.assertIs(is_fit(SOME, 3, 2, e, value), False)
            self.assertIs(is_bars(SOME, 1, 1, e, value), False)

    def test_errors_in_their_order(self):
        for function, more in ((possible, ()), (is_fit, (None,)), (is_bars, (None,))):
            for m in NO_DEGREES:
                self.bad("top", m, function, SOME, m, -1, -1, *more)
            for n in NO_DEGREES:
                self.bad("bottom", n, function, SOME, 1, n, -1, *more)
            for e in NO_RATIOS + [-1, (-1, 10 ** 20)]:
                self.bad("e", e, function, SOME, 1, 1, e, *more)
        for m in NO_DEGREES:
            self.bad("top", m, least_possible, SOME, m, -1, -1)
            self.bad("bottom", m, least_possible, SOME, 0, m, -1)
        for bits in NO_BITS:
            self.bad("bits", bits, least_possible, SOME, 0, 0, bits)
        for most in (-1, 5, True, None, "1", (1, 1)):
            self.bad("most", most, frontier, SOME, most, -1)
        for e in NO_RATIOS + [-1]:
            self.bad("e", e, frontier, SOME, 2, e)

    def test_each_of_the_three_sums_is_asked(self):
        points = Points((0, 1, 2, 3), (0, 1, 0, 1))
        told = possible(points, 0, 0, 0)
        self.assertIs(is_bars(points, 0, 0, 0, told), True)
        for place in (0, 1):
            # Where e and the number are 0, a and b count in the first sum alone.
            row = list(told.shares[0])
            row[place] = pair(fraction(row[place]) + 1)
            self.assertIs(is_bars(points, 0, 0, 0, Bars((tuple(row), *told.shares[1:]))), False)
        row = (told.shares[0][0], told.shares[0][1], pair(fraction(told.shares[0][2]) + 1))
        self.assertIs(is_bars(points, 0, 0, 0, Bars((row, *told.shares[1:]))), False)
        self.assertIs(is_bars(points, 0, 0, 0, Bars(((0, 0, 0),) * 4)), False)

    def test_least_possible(self):
        for points in (PLANTED, SOME, PAIR, ALONE):
            for m, n in ((0, 0), (0, 2), (1, 1), (1, 2), (2, 0), (3, 4)):
                for bits in (0, 3, 20):
                    told = least_possible(points, m, n, bits)
                    self.assertIsInstance(told, Possible)
                    self.assertTrue(is_told_ratio(told.number))
                    number = fraction(told.number)
                    self.assertEqual((number * 2 ** bits).denominator, 1)
                    self.assertTrue(fit_holds(points, m, n, number, told.fit))
                    if number == 0:
                        self.assertIsNone(told.bars)
                    else:
                        self.assertTrue(bars_hold(points, m, n, number - Fraction(1, 2 ** bits), told.bars))
                    if n == 0:
                        least = fraction(nearest(points, tuple(range(m + 1))).error)
                        self.assertTrue(number - Fraction(1, 2 ** bits) < least <= number or number == least == 0)
        self.assertEqual(least_possible(PLANTED, 1, 2, 60).number, (0, 1))
        self.assertEqual(least_possible(PAIR, 0, 1, 60).number, (1, 2 ** 60))

    def test_frontier(self):
        for points in (PLANTED, SOME, PAIR, ALONE):
            for most in range(5):
                for e in (0, (1, 50), (1, 3), 1, [3, 2]):
                    rows = []
                    for m in range(most + 1):
                        right = [n for n in range(most + 1) if isinstance(possible(points, m, n, e), Fit)]
                        rows.append((m, min(right) if right else None))
                    self.assertEqual(frontier(points, most, e), tuple(rows))

    def test_sizes(self):
        random = Random(59)
        for many, m, n, digits in ((40, 3, 3, 60), (7, 4, 4, 60), (40, 2, 4, 9)):
            xs = sorted({Fraction(random.randrange(10 ** digits), random.randrange(10 ** (digits - 1), 10 ** digits)) for _ in range(many)})
            numbers = [pair(1 / (1 + x * x) + Fraction(random.randrange(1000), 10 ** 4)) for x in xs]
            if digits == 60:
                numbers = [pair(Fraction(random.randrange(10 ** 60), random.randrange(10 ** 59, 10 ** 60))) for _ in xs]
            points = Points([pair(x) for x in xs], numbers)
            told = least_possible(points, m, n, 6)
            number = fraction(told.number)
            self.assertIs(is_fit(points, m, n, told.number, told.fit), True)
            self.assertTrue(fit_holds(points, m, n, number, told.fit))
            self.assertTrue(bars_hold(points, m, n, number - Fraction(1, 2 ** 6), told.bars))
            self.assertEqual(len(frontier(points, 2, told.number)), 3)


EXP = Mixed(Poly(()), [(ONE, exp_row())])
MIX = Mixed(Poly((0, 1)), [(Poly((1, 1)), atan_row())])
ENDING = Mixed(Poly((1,)), [(Poly((0, 1)), power_row(3))])
RUNGE = Quotient(Poly((1,)), Poly((1, 0, 4)))
TURNED = Quotient(Poly((-1, 1)), Poly((-2, 0, -1)))
BENT = Pieces((-2, (-1, 3), (3, 4), 2), (Poly((0, -3)), ONE, Poly(((1, 4), 1))))
# (2 + x) / (2 - x) is near to exp.
TOP, BOTTOM = Poly((2, 1)), Poly((2, -1))


class TestOnIntervals(Asking):
    def greatest(self, top, bottom, function, low, high):
        """Nearly the greatest error, seen at many points."""
        low, high = fraction(low), fraction(high)
        points = [low + (high - low) * k / 30 for k in range(31)]
        return max(abs(value_near(function, x, 30)[0] - worth(top, x) / worth(bottom, x)) for x in points)

    def answer_holds(self, top, bottom, function, low, high, e, bits):
        told = quotient_within(top, bottom, function, low, high, e, bits)
        if isinstance(told, Within):
            self.assertTrue(quotient_paper_holds(told.paper, top, bottom, function, low, high, e))
            self.assertIs(shows_quotient(told.paper, top, bottom, function, low, high, e), True)
        elif isinstance(told, Beyond):
            point = fraction(told.point)
            self.assertTrue(fraction(low) <= point <= fraction(high))
            number, left = value_near(function, point)
            self.assertGreaterEqual(abs(number - worth(top, point) / worth(bottom, point)) + left, fraction(told.error))
            self.assertGreater(fraction(told.error), fraction(e))
        else:
            self.assertIsInstance(told, Near)
            terms = least_terms(function, low, high, bits)
            self.assertEqual(told.terms, terms)
            self.assertEqual(fraction(told.slack), 2 * tail_by_sum(function, low, high, terms))
        return told

    def test_quotient_within(self):
        for function in (EXP, MIX, ENDING, RUNGE, TURNED, BENT, Poly((1, 2, 3)), ONE):
            for top, bottom in ((TOP, BOTTOM), (-TOP, -BOTTOM), (ONE, Poly((3, 0, 1))), (Poly(()), ONE), (X, Poly((-5,)))):
                low, high = (-1, 2), (2, 3)
                seen = self.greatest(top, bottom, function, low, high)
                far = self.answer_holds(top, bottom, function, low, high, pair(seen * 2 + 1), 20)
                self.assertIsInstance(far, Within)
                if seen > 0:
                    low_e = self.answer_holds(top, bottom, function, low, high, pair(seen / 2), 40)
                    self.assertIsInstance(low_e, Beyond)
                near = self.answer_holds(top, bottom, function, low, high, pair(seen * Fraction(11, 10)), 50)
                self.assertIsInstance(near, Within)

    def test_just_the_greatest_error(self):
        # |x - 1 / (1 + x)| on 0 to 1 is 1 at 0.
        told = self.answer_holds(ONE, Poly((1, 1)), X, 0, 1, 1, 0)
        self.assertIsInstance(told, Within)
        self.assertIsInstance(self.answer_holds(ONE, Poly((1, 1)), X, 0, 1, pair(1 - Fraction(1, 10 ** 40)), 0), Beyond)
        self.assertIsInstance(self.answer_holds(Poly((1,)), Poly((1, 0, 4)), RUNGE, -1, 1, 0, 0), Within)
        self.assertIsInstance(self.answer_holds(Poly((-3,)), Poly((-3, 0, -12)), RUNGE, -1, 1, 0, 0), Within)
        ending = Poly((1, 1, 3, 3, 1))
        self.assertIsInstance(self.answer_holds(ending * Poly((1, 1)), Poly((1, 1)), ENDING, 0, 1, 0, 0), Within)

    def test_each_of_three_answers(self):
        for function in (EXP, MIX):
            for bits in (0, 4, 10, 30):
                terms = least_terms(function, 0, (1, 2), bits)
                left = tail_by_sum(function, 0, (1, 2), terms)
                near = sums_by_terms(function, terms)
                # The error of the sums times x + 3, over x + 3, is just 0 against the sums.
                top, bottom = near * Poly((-3, -1)), Poly((-3, -1))
                self.assertIsInstance(self.answer_holds(top, bottom, function, 0, (1, 2), pair(left), bits), Within)
                told = self.answer_holds(top, bottom, function, 0, (1, 2), pair(left / 2), bits)
                self.assertIsInstance(told, Near)
                self.assertIsInstance(self.answer_holds(top, bottom, function, 0, (1, 2), 0, bits), Near)
                off = top + bottom * pair(left * 3)
                self.assertIsInstance(self.answer_holds(off, bottom, function, 0, (1, 2), pair(left * 2), bits), Near)
                self.assertIsInstance(self.answer_holds(off, bottom, function, 0, (1, 2), pair(left), bits), Beyond)

    def test_papers_with_one_thing_changed(self):
        for function, e in ((EXP, (1, 20)), (RUNGE, 2), (BENT, 4), (Poly((1, 1)), 1), (ENDING, 4)):
            low, high = (-1, 2), (1, 2)
            paper = quotient_within(TOP, BOTTOM, function, low, high, e, 20).paper

            def judged(paper, top=TOP, bottom=BOTTOM, e=e, low=low, high=high):
                return shows_quotient(paper, top, bottom, function, low, high, e)

            self.assertIs(judged(paper), True)
            self.assertIs(judged(paper, -TOP, -BOTTOM), True)
            self.assertIs(judged(paper, top=TOP + 1), False)
            self.assertIs(judged(paper, bottom=BOTTOM * 2), False)
            self.assertIs(judged(paper, e=(e[0], 2 * e[1]) if type(e) is tuple else e + 1), False)
            one = paper[0] if type(paper) is tuple else paper
            others = []
            for changed in (
                Paper(one.terms, one.under, one.above), Paper(one.terms, None, one.under), Paper(-1, one.above, one.under),
                Paper(one.terms, one.above, Split(one.under.root, one.under.rest + 1, one.under.cuts)),
                Paper(True, one.above, one.under), None, 7, Paper((0, 1), one.above, one.under),
            ):
                others.append((changed, *paper[1:]) if type(paper) is tuple else changed)
            if type(paper) is tuple:
                others.extend([paper[1:], list(paper), paper + paper[:1], ()])
            else:
                others.append((paper,))
                if function is not ENDING:
                    others.append(Paper(one.terms + 1, one.above, one.under))
            for other in others + ["", (), {}, ONE, Within(paper)]:
                self.assertIs(judged(other), False, other)
        self.assertIs(shows_quotient(Paper(0, None, None), TOP, BOTTOM, EXP, 0, 1, 1), False)
        paper = quotient_within(TOP, BOTTOM, ENDING, 0, 1, 9, 20).paper
        self.assertIs(shows_quotient(Paper(55, paper.above, paper.under), TOP, BOTTOM, ENDING, 0, 1, 9), True)

    def test_errors_in_their_order(self):
        wide = Mixed(Poly(()), [(ONE, log_row())])
        pole = Quotient(ONE, X)
        for asked in (quotient_within, shows_quotient):
            def ask(top, bottom, function, low, high, e, bits=2, asked=asked):
                if asked is quotient_within:
                    return quotient_within(top, bottom, function, low, high, e, bits)
                return shows_quotient(None, top, bottom, function, low, high, e)

            for low, high in NO_INTERVALS:
                self.bad_interval(low, high, ask, ONE, Poly(()), pole, low, high, -1)
            for low, high in ((-3, 0), (0, 3), ((-9, 4), (9, 4))):
                self.bad_interval(low, high, ask, ONE, Poly(()), BENT, low, high, -1)
            for bottom in (Poly(()), X, Poly((-1, 2)), Poly((1, -2, 1)), Poly((0, 0, 1)), Poly((-1, 0, 2))):
                with self.assertRaises(Pole):
                    ask(ONE, bottom, wide, 0, 1, -1)
            with self.assertRaises(Pole):
                ask(ONE, ONE, pole, 0, 1, -1)
            for e in NO_RATIOS + [-1, (-1, 10 ** 9)]:
                self.bad("e", e, ask, ONE, ONE, wide, 0, 1, e)
            with self.assertRaises(TooWide):
                ask(ONE, ONE, wide, 0, 1, 1)
        for bits in NO_BITS:
            self.bad("bits", bits, quotient_within, ONE, ONE, wide, 0, 1, 1, bits)
        self.assertIsInstance(quotient_within(ONE, Poly((1, -2, 1)), ONE, -1, (1, 2), 5, 0), Within)
        with self.assertRaises(BadInterval):
            shows_quotient(Paper(0, 0, 0), ONE, ONE, ONE, 1, 0, 0)

    def test_sizes(self):
        top = Poly([(k * k + 1, 10 ** 20 + k) for k in range(13)])
        bottom = Poly([(10 ** 21, 1)] + [(k, 10 ** 19 + k) for k in range(1, 13)])
        self.answer_holds(top, bottom, EXP, -4, 4, 60, 60)
        self.answer_holds(top, bottom, RUNGE, -100, 100, 1, 60)


class TestClasses(Asking):
    def test_they_keep_what_they_are_given(self):
        self.keep_what_they_are_given({Fit: ("top", "bottom"), Bars: ("shares",), Possible: ("number", "fit", "bars")})

    def test_where_they_are_defined(self):
        self.are_defined_in(
            quotients, "Fit", "Bars", "Possible", "error_on", "possible", "is_fit", "is_bars", "least_possible", "frontier",
            "quotient_within", "shows_quotient",
        )


if __name__ == "__main__":
    unittest.main()
