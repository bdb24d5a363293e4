"""Promises [27] to [32]."""

import unittest
from fractions import Fraction
from random import Random

from checking import is_told_ratio, paper_holds, share_paper_holds, sums_by_terms, tail_by_sum, value_near
from helping import NO_BITS, NO_INTERVALS, NO_RATIOS, Asking, fraction, pair, random_poly, random_ratio

from nearcurves import errors_of
from nearcurves.errors import Fewer, Pole, TooWide
from nearcurves.errors_of import (
    Beyond, Greatest, Near, Paper, Within, enclosed_error, shows, shows_share, within, within_share,
)
from nearcurves.functions import Mixed, Pieces, Quotient, least_terms, tail
from nearcurves.polys import Poly, poly_of
from nearcurves.rows import Row, atan_row, cos_row, exp_row, log_row, power_row, powered, scaled, sin_row
from nearcurves.signs import Split, never_below

ONE = Poly((1,))
CUBE = Poly((1, 1, (1, 2), (1, 6)))
OTHERS = [None, True, 0, "paper", (), [], (1, 2, 3), {}, object(), Paper, Split(ONE, ONE, ()), Within(None), ONE]


def mixed(*rows):
    return Mixed(Poly(()), [(ONE, row) for row in rows])


def zigzag():
    return Pieces((-2, 0, 1, 3), (Poly((0, -1)), Poly((0, 1)), Poly((0, 0, 1))))


EXACT = [
    (poly_of("x^2"), -1, 1), (Poly(()), (-1, 3), 2), (mixed(power_row(4)), -8, 8), (mixed(), 0, 1),
    (Mixed(Poly((1, 2)), [(Poly((0, 1)), power_row(2)), (ONE, power_row(5))]), -1, (1, 2)),
    (Quotient(ONE, poly_of("x^2 + 1")), -5, 5), (Quotient(poly_of("x^3 - 1"), poly_of("-3 + x")), -1, (5, 2)),
    (Quotient(poly_of("1 + 1/3*x^12"), poly_of("1 + x + x^2 + 7*x^12")), -8, 8), (zigzag(), -2, 3), (zigzag(), (-1, 2), 2),
    (zigzag(), 0, 1), (zigzag(), (1, 4), (1, 2)),
]


def wide_one():
    rows = [exp_row(), scaled(atan_row(), (1, 12)), scaled(power_row((-5, 3)), (1, 20)), powered(sin_row(), 2)]
    factors = [Poly((0, 1, (1, 3), 4, 5, 6, 7)), Poly((1, 1)), Poly((3, (1, 7))), ONE]
    return Mixed(Poly((1, 2)), list(zip(factors, rows)))


class Judging(Asking):
    def error_at(self, poly, function, point):
        """The error at a point, and how little of it is sure."""
        number, left = value_near(function, fraction(point))
        return abs(value_near(poly, fraction(point))[0] - number), left

    def inside(self, point, low, high):
        self.assertTrue(is_told_ratio(point))
        self.assertTrue(fraction(low) <= fraction(point) <= fraction(high))

    def is_within(self, answer, poly, function, low, high, e):
        self.assertIsInstance(answer, Within)
        self.assertTrue(paper_holds(answer.paper, poly, function, low, high, e))
        self.assertIs(shows(answer.paper, poly, function, low, high, e), True)

    def is_beyond(self, answer, poly, function, low, high, e):
        self.assertIsInstance(answer, Beyond)
        self.inside(answer.point, low, high)
        self.assertTrue(is_told_ratio(answer.error))
        self.assertGreater(fraction(answer.error), fraction(e))
        error, left = self.error_at(poly, function, answer.point)
        self.assertGreaterEqual(error + left, fraction(answer.error))


class TestWithin(Judging):
    def test_exact_functions(self):
        random = Random(51)
        for function, low, high in EXACT:
            for poly in (Poly(()), CUBE, random_poly(random.randrange(10 ** 6), 4, 3)):
                greatest = enclosed_error(poly, function, low, high, 60)
                most, least = fraction(greatest.most), fraction(greatest.least)
                for e in (most, most + 1, 10 ** 30, most + Fraction(1, 10 ** 40)):
                    self.is_within(within(poly, function, low, high, pair(e), 0), poly, function, low, high, pair(e))
                for e in (least - Fraction(1, 10 ** 15), least / 2, Fraction(0)):
                    if 0 <= e < least:
                        self.is_beyond(within(poly, function, low, high, pair(e), 7), poly, function, low, high, pair(e))

    def test_just_the_greatest_error(self):
        cases = [
            (poly_of("x^2"), Poly(((1, 2),)), -1, 1, (1, 2)), (poly_of("x^4 - 4*x^2"), Poly(()), -2, 2, 4),
            (Quotient(ONE, poly_of("x^2 + 1")), Poly(()), -1, 1, 1), (zigzag(), Poly((1,)), -2, 1, 1),
            (mixed(power_row(2)), poly_of("x^2"), -1, 1, 3), (poly_of("x^3 - 2*x"), poly_of("x^3 - 2*x"), -1, 1, 0),
        ]
        for function, poly, low, high, e in cases:
            self.is_within(within(poly, function, low, high, e, 0), poly, function, low, high, e)
            more = pair(fraction(e) + Fraction(1, 10 ** 30))
            self.is_within(within(poly, function, low, high, more, 0), poly, function, low, high, more)
            if e != 0:
                less = pair(fraction(e) - Fraction(1, 10 ** 30))
                self.is_beyond(within(poly, function, low, high, less, 0), poly, function, low, high, less)

    def three(self, function, poly, low, high, bits):
        """At the ends of the strip in which it is Near."""
        terms = least_terms(function, low, high, bits)
        rest = fraction(tail(function, low, high, terms))
        near = sums_by_terms(function, terms)
        flat = enclosed_error(poly, near, low, high, 60)
        self.assertLess(fraction(flat.most) - fraction(flat.least), Fraction(1, 2 ** 60) + rest / 4)
        above, below = fraction(flat.most) + rest, fraction(flat.least) - rest
        self.is_within(within(poly, function, low, high, pair(above), bits), poly, function, low, high, pair(above))
        for e in (fraction(flat.least), fraction(flat.least) + rest * Fraction(1, 2), below + rest / 10):
            answer = within(poly, function, low, high, pair(e), bits)
            self.assertIsInstance(answer, Near)
            self.assertEqual((answer.terms, fraction(answer.slack)), (terms, 2 * rest))
            self.assertTrue(is_told_ratio(answer.slack))
        for e in (below - rest / 10 ** 6, below / 2):
            if e >= 0:
                answer = within(poly, function, low, high, pair(e), bits)
                self.is_beyond(answer, poly, function, low, high, pair(e))

    def test_three_answers(self):
        for bits in (5, 12, 30):
            self.three(mixed(exp_row()), CUBE, -1, 1, bits)
            self.three(Mixed(Poly((1, 2)), [(Poly((0, 1)), sin_row()), (ONE, cos_row())]), Poly((2, 3, 1)), (-1, 3), 2, bits)
            self.three(mixed(log_row()), Poly((0, 1)), (1, 100), (1, 2), bits)

    def test_just_at_the_ends_of_the_strip(self):
        # The error of 1 from the sums is greatest at 1, where it is a ratio.
        function = mixed(exp_row())
        for bits in (4, 10):
            terms = least_terms(function, 0, 1, bits)
            rest = fraction(tail(function, 0, 1, terms))
            error = value_near(sums_by_terms(function, terms), Fraction(1))[0] - 1
            tiny = Fraction(1, 10 ** 40)
            kinds = [type(within(ONE, function, 0, 1, pair(error + shift), bits)) for shift in
                     (rest, rest + tiny, rest - tiny, -rest, -rest - tiny, -rest + tiny)]
            self.assertEqual(kinds, [Within, Within, Near, Near, Beyond, Near])

    def test_sizes(self):
        function = wide_one()
        low, high = (-10 ** 59 * 3 - 1, 10 ** 59), (10 ** 59 * 3 + 77, 10 ** 59 + 1)
        greatest = enclosed_error(CUBE, function, low, high, 60)
        e = pair(fraction(greatest.most) + Fraction(1, 2 ** 50))
        answer = within(CUBE, function, low, high, e, 60)
        self.assertIs(shows(answer.paper, CUBE, function, low, high, e), True)
        self.assertIsInstance(within(CUBE, function, low, high, (1, 10 ** 50), 60), Beyond)

    def test_errors_in_their_order(self):
        pole = Quotient(ONE, Poly((0, 1)))
        wide = mixed(log_row())
        for low, high in NO_INTERVALS:
            for function in (ONE, pole, wide, zigzag()):
                self.bad_interval(low, high, within, ONE, function, low, high, -1, -1)
        for low, high in (((-2000001, 10 ** 6), 1), (0, (10 ** 30 + 1, 10 ** 29)), (-3, -2), (3, 4)):
            self.bad_interval(low, high, within, ONE, zigzag(), low, high, -1, -1)
        for low, high in ((-1, 1), (0, 1), (-1, 0), ((-1, 10 ** 60), 1)):
            with self.assertRaises(Pole):
                within(ONE, pole, low, high, -1, -1)
        for e in NO_RATIOS + [-1, (-1, 10 ** 60), [-3, 2]]:
            self.bad("e", e, within, ONE, wide, -1, 1, e, -1)
            self.bad("e", e, within, ONE, zigzag(), -1, 1, e, -1)
        for bits in NO_BITS:
            self.bad("bits", bits, within, ONE, wide, -1, 1, 0, bits)
            self.bad("bits", bits, within, ONE, ONE, -1, 1, 0, bits)
        with self.assertRaises(TooWide):
            within(ONE, wide, -1, 1, 0, 0)


class TestShows(Judging):
    def test_one_thing_changed(self):
        for function, poly, low, high, e in self.cases():
            paper = within(poly, function, low, high, e, 20).paper
            self.assertIs(shows(paper, poly, function, low, high, e), True)
            for value in OTHERS + self.changed(paper):
                self.assertIs(shows(value, poly, function, low, high, e), False)
            self.assertIs(shows(paper, poly, function, low, high, pair(fraction(e) + 1)), False)
            self.assertIs(shows(paper, poly + 1, function, low, high, e), False)
            self.assertIs(shows(paper, poly, function, low, high, -1), False)

    def cases(self):
        return [
            (poly_of("x^2"), Poly((1,)), -1, 1, 1), (mixed(exp_row()), CUBE, -1, 1, (1, 10)),
            (mixed(power_row(3)), CUBE, -1, 1, 8), (Quotient(ONE, poly_of("x^2 + 1")), Poly(((1, 2),)), -1, 1, (1, 2)),
            (Quotient(-ONE, poly_of("-1 - x^2")), Poly(((1, 2),)), -1, 1, (1, 2)), (zigzag(), Poly((1,)), -1, 2, 3),
        ]

    def changed(self, paper):
        if isinstance(paper, tuple):
            return [paper[:-1], paper + paper[:1], paper[::-1], list(paper), paper[:-1] + (None,), paper[0], (paper,)]
        terms, above, under = paper.terms, paper.above, paper.under
        found = [Paper(terms, under, above), Paper(terms, above, None), Paper(terms, None, under), (paper,), [paper]]
        found += [Paper(value, above, under) for value in (-1, None, True, (0, 1), "0", terms + 1 if terms else -2)]
        found += [Paper(terms, Split(above.root, above.rest + 1, above.cuts), under)]
        return found + [Paper(terms, above, Split(under.root, under.rest, under.cuts + (5,)))]

    def test_papers_by_products_and_corners(self):
        function = mixed(exp_row())
        for terms in (2, 5, 9, 20):
            rest = pair(tail_by_sum(function, -1, 1, terms))
            near = sums_by_terms(function, terms)
            for e in (1, (1, 2)):
                above = never_below(Poly((e,)) - Poly((rest,)) - (CUBE - near), -1, 1)
                under = never_below(Poly((e,)) - Poly((rest,)) + (CUBE - near), -1, 1)
                paper = Paper(terms, above, under)
                right = isinstance(above, Split) and isinstance(under, Split)
                self.assertIs(shows(paper, CUBE, function, -1, 1, e), right)
                self.assertIs(paper_holds(paper, CUBE, function, -1, 1, e) if right else False, right)
        self.assertIs(shows(Paper(0, above, under), CUBE, function, -1, 1, 1), False)

    def test_any_terms_where_all_rows_end(self):
        function = mixed(power_row(2))
        paper = within(ONE, function, -1, 1, 3, 0).paper
        self.assertEqual(paper.terms, 0)
        for terms in (0, 1, 7, 10 ** 30):
            self.assertIs(shows(Paper(terms, paper.above, paper.under), ONE, function, -1, 1, 3), True)
        self.assertIs(shows(Paper(-1, paper.above, paper.under), ONE, function, -1, 1, 3), False)
        for function in (poly_of("x^2 + 2*x + 1"), Quotient(poly_of("x^2 + 2*x + 1"), ONE)):
            self.assertIs(shows(paper, ONE, function, -1, 1, 3), True)
            self.assertIs(shows(Paper(1, paper.above, paper.under), ONE, function, -1, 1, 3), False)

    def test_errors_in_their_order(self):
        pole, wide = Quotient(ONE, Poly((0, 1))), mixed(log_row())
        for low, high in NO_INTERVALS:
            self.bad_interval(low, high, shows, None, ONE, wide, low, high, None)
        self.bad_interval(-5, 1, shows, None, ONE, zigzag(), -5, 1, None)
        with self.assertRaises(Pole):
            shows(None, ONE, pole, -1, 1, None)
        for e in NO_RATIOS:
            self.bad("e", e, shows, None, ONE, wide, -1, 1, e)
        for value in OTHERS + [Paper(0, None, None)]:
            with self.assertRaises(TooWide):
                shows(value, ONE, wide, -1, 1, -1)
            self.assertIs(shows(value, ONE, ONE, -1, 1, -1), False)


class TestEnclosed(Judging):
    def holds(self, poly, function, low, high, bits):
        found = enclosed_error(poly, function, low, high, bits)
        self.assertIsInstance(found, Greatest)
        self.assertTrue(is_told_ratio(found.least) and is_told_ratio(found.most))
        self.assertLessEqual(fraction(found.least), fraction(found.most))
        self.assertLessEqual(fraction(found.most) - fraction(found.least), Fraction(1, 2 ** bits))
        self.inside(found.point, low, high)
        error, left = self.error_at(poly, function, found.point)
        self.assertGreaterEqual(error + left, fraction(found.least))
        self.assertTrue(paper_holds(found.paper, poly, function, low, high, found.most))
        self.assertIs(shows(found.paper, poly, function, low, high, found.most), True)
        return found

    def test_exact_functions(self):
        random = Random(52)
        for function, low, high in EXACT:
            for bits in (0, 20, 60):
                self.holds(CUBE, function, low, high, bits)
                self.holds(random_poly(random.randrange(10 ** 6), 3, 20), function, low, high, bits)
        found = self.holds(poly_of("x^2"), poly_of("x^2"), -1, 1, 60)
        self.assertEqual((found.least, found.most), ((0, 1), (0, 1)))

    def test_just_multiples_of_the_gap(self):
        # The greatest error is at points that are no ratios.
        for shift in (Fraction(0), Fraction(1, 10 ** 30), Fraction(-1, 10 ** 30), Fraction(1, 3)):
            for bits in (0, 5, 30, 60):
                for sign in (1, -1):
                    poly = Poly((pair(sign * shift),))
                    self.holds(poly, poly_of("x^4 - 4*x^2") * sign, 0, 2, bits)
                    quotient = Quotient(poly_of("x^4 - 4*x^2") * poly_of("x^2 + 1") * -sign, poly_of("-1 - x^2"))
                    self.holds(poly, quotient, 1, 2, bits)

    def test_endless_rows(self):
        for bits in (0, 20, 60):
            self.holds(CUBE, mixed(exp_row()), -1, 1, bits)
            self.holds(Poly((0, 1)), mixed(atan_row()), (-7, 10), (7, 10), bits)
            self.holds(Poly(()), mixed(sin_row(), cos_row()), (-1, 2), 2, bits)

    def test_sizes(self):
        found = enclosed_error(CUBE, wide_one(), -4, 4, 60)
        self.assertIs(shows(found.paper, CUBE, wide_one(), -4, 4, found.most), True)
        self.assertLessEqual(fraction(found.most) - fraction(found.least), Fraction(1, 2 ** 60))

    def test_errors_in_their_order(self):
        pole, wide = Quotient(ONE, Poly((0, 1))), mixed(log_row())
        for low, high in NO_INTERVALS:
            self.bad_interval(low, high, enclosed_error, ONE, wide, low, high, -1)
        self.bad_interval(-5, 1, enclosed_error, ONE, zigzag(), -5, 1, -1)
        with self.assertRaises(Pole):
            enclosed_error(ONE, pole, -1, 1, -1)
        for bits in NO_BITS:
            self.bad("bits", bits, enclosed_error, ONE, wide, -1, 1, bits)
        with self.assertRaises(TooWide):
            enclosed_error(ONE, wide, -1, 1, 0)


class TestShares(Judging):
    FUNCTIONS = [
        (poly_of("x^2 + 1"), -1, 1), (Poly((-3, 1)), -1, 2), (mixed(power_row(2)), 0, 1),
        (Quotient(poly_of("x^2 + 1"), poly_of("x - 2")), -1, 1), (Quotient(-ONE, poly_of("x - 2")), -1, 1),
        (Pieces((-1, 0, 1), (Poly((1, -1)), Poly((1, 2)))), -1, 1), (Pieces((-1, 0, 1), (Poly((-1, 1)), Poly((-1, -2)))), (-1, 2), 1),
        (mixed(exp_row()), -1, 1), (Mixed(Poly(()), [(Poly((-1,)), exp_row())]), -1, 1), (mixed(log_row()), (1, 100), (1, 2)),
    ]

    def share_at(self, poly, function, point):
        number, left = value_near(function, fraction(point))
        return abs(value_near(poly, fraction(point))[0] - number) / abs(number), 10 ** 6 * left

    def test_answers(self):
        random = Random(53)
        for function, low, high in self.FUNCTIONS:
            number = value_near(function, fraction(high))[0].limit_denominator(10 ** 6)
            for poly in (Poly(()), Poly((pair(number),)), random_poly(random.randrange(10 ** 6), 2, 1)):
                for e in (0, (1, 10), (1, 2), (99, 100), (9999999, 10 ** 7)):
                    self.one_answer(poly, function, low, high, e, 24)

    def one_answer(self, poly, function, low, high, e, bits):
        answer = within_share(poly, function, low, high, e, bits)
        if isinstance(answer, Within):
            self.assertTrue(share_paper_holds(answer.paper, poly, function, low, high, e))
            self.assertIs(shows_share(answer.paper, poly, function, low, high, e), True)
            self.assertIs(shows_share(answer.paper, poly + (1, 10 ** 9), function, low, high, e), False)
        elif isinstance(answer, Beyond):
            self.inside(answer.point, low, high)
            self.assertGreater(fraction(answer.error), fraction(e))
            error, left = self.share_at(poly, function, answer.point)
            self.assertGreaterEqual(error + left, fraction(answer.error))
        else:
            self.assertIsInstance(answer, Near)
        return answer

    def test_just_the_greatest_share(self):
        function = poly_of("x^2 + 1")
        for poly, e in ((Poly(((3, 2),)), (1, 2)), (Poly((1,)), (1, 2)), (Poly(((4, 3),)), (1, 3)), (function, 0)):
            self.assertIsInstance(self.one_answer(poly, function, -1, 1, e, 0), Within)
            self.assertIsInstance(self.one_answer(-poly, -function, -1, 1, e, 0), Within)
            if e != 0:
                less = pair(fraction(e) - Fraction(1, 10 ** 30))
                self.assertIsInstance(self.one_answer(poly, function, -1, 1, less, 0), Beyond)
                self.assertIsInstance(self.one_answer(-poly, -function, -1, 1, less, 0), Beyond)

    def test_near(self):
        function = mixed(exp_row())
        terms = least_terms(function, -1, 1, 20)
        near = sums_by_terms(function, terms)
        answer = within_share(near, function, -1, 1, 0, 20)
        self.assertIsInstance(answer, Near)
        self.assertEqual((answer.terms, fraction(answer.slack)), (terms, 2 * tail_by_sum(function, -1, 1, terms)))

    def test_more_bits_until_there_is_a_sign(self):
        # At 1 / 100 it is about 1 / 100, so few terms leave it open on which side of 0 it is.
        function = mixed(log_row())
        for bits in (0, 3):
            answer = within_share(Poly((0, 1)), function, (1, 100), (1, 2), (1, 2), bits)
            terms = answer.terms if isinstance(answer, Near) else answer.paper.terms
            self.assertLess(tail_by_sum(function, (1, 100), (1, 2), terms), Fraction(1, 100))
            least = [more for more in range(bits, 61) if self.has_sign(function, (1, 100), (1, 2), more)][0]
            self.assertEqual(terms, least_terms(function, (1, 100), (1, 2), least))

    def has_sign(self, function, low, high, bits):
        terms = least_terms(function, low, high, bits)
        room = sums_by_terms(function, terms) - Poly((pair(tail_by_sum(function, low, high, terms)),))
        answer = never_below(room, low, high)
        return isinstance(answer, Split) and value_near(room, fraction(low))[0] > 0

    def test_poles(self):
        for function, low, high in (
            (Poly((0, 1)), -1, 1), (Poly((0, 1)), 0, 1), (Poly(()), 0, 1), (poly_of("x^2 - 2"), 0, 2), (poly_of("x^4 - 4*x^2 + 4"), 0, 2),
            (mixed(sin_row()), -1, 1), (mixed(sin_row()), 0, 1), (mixed(log_row()), (-1, 3), (1, 3)), (zigzag(), -1, 1),
            (Quotient(Poly((0, 1)), poly_of("x^2 + 1")), -1, 1), (mixed(power_row(1)), -1, 1),
            (Mixed(Poly(((1, 10 ** 25),)), [(ONE, powered(sin_row(), 2))]), -1, 1),
        ):
            with self.assertRaises(Pole):
                within_share(ONE, function, low, high, 0, 0)

    def test_no_more_than_60_bits(self):
        # Its least value is its tail with 60 bits; so only more bits would tell that it is above 0.
        row, least = Row(1, ONE, Poly((1, 1)), 1, 1), Fraction(3, 2 ** 62)
        factor = Poly((pair(least / tail_by_sum(mixed(row), 0, 1, 10)),))
        function = Mixed(Poly((pair(least),)), [(factor, row)])
        self.assertEqual((least_terms(function, 0, 1, 60), tail(function, 0, 1, 10)), (10, pair(least)))
        with self.assertRaises(Pole):
            within_share(Poly((0, 1)), function, 0, 1, 0, 0)
        function = Mixed(Poly((pair(least + Fraction(1, 10 ** 40)),)), [(factor, row)])
        self.one_answer(Poly((0, 1)), function, 0, 1, 0, 0)

    def test_shows_share_of_any_value(self):
        for function, low, high in self.FUNCTIONS:
            answer = within_share(Poly(()), function, low, high, (1, 2), 20)
            self.assertIsInstance(answer, Beyond)
            for value in OTHERS + [Paper(20, None, None), Paper(None, None, None), Paper(-1, None, None)]:
                self.assertIs(shows_share(value, ONE, function, low, high, (1, 2)), False)
        paper = within_share(Poly(((3, 2),)), poly_of("x^2 + 1"), -1, 1, (1, 2), 0).paper
        for wrong in (Paper(1, paper.above, paper.under), Paper(0, paper.under, paper.above), (paper,), [paper]):
            self.assertIs(shows_share(wrong, Poly(((3, 2),)), poly_of("x^2 + 1"), -1, 1, (1, 2)), False)

    def test_shows_share_where_there_is_no_sign(self):
        for value in OTHERS:
            self.assertIs(shows_share(value, ONE, Poly((0, 1)), -1, 1, 0), False)
            self.assertIs(shows_share(value, ONE, mixed(sin_row()), -1, 1, 0), False)
        for value in (Paper(0, None, None), Paper(5, None, None)):
            with self.assertRaises(Pole):
                shows_share(value, ONE, Poly((0, 1)), -1, 1, 0)
        with self.assertRaises(Pole):
            shows_share((), ONE, zigzag(), -1, 1, 0)
        self.assertIs(shows_share(Paper(0, None, None), ONE, zigzag(), -1, 1, 0), False)
        with self.assertRaises(Pole):
            shows_share(Paper(10, None, None), ONE, mixed(sin_row()), -1, 1, 0)
        # Terms that are too few for a sign, and terms that are too few for tail.
        function = mixed(exp_row())
        with self.assertRaises(Pole):
            shows_share(Paper(1, None, None), ONE, function, -1, 1, 0)
        self.assertIs(shows_share(Paper(0, None, None), ONE, function, -1, 1, 0), False)
        with self.assertRaises(Fewer):
            tail(function, -1, 1, 0)

    def test_errors_in_their_order(self):
        pole, wide = Quotient(ONE, Poly((0, 1))), mixed(log_row())
        for low, high in NO_INTERVALS:
            self.bad_interval(low, high, within_share, ONE, wide, low, high, -1, -1)
            self.bad_interval(low, high, shows_share, None, ONE, wide, low, high, -1)
        self.bad_interval(-5, 1, within_share, ONE, zigzag(), -5, 1, -1, -1)
        self.bad_interval(-5, 1, shows_share, None, ONE, zigzag(), -5, 1, -1)
        for call in (lambda: within_share(ONE, pole, -1, 1, -1, -1), lambda: shows_share(None, ONE, pole, -1, 1, -1)):
            with self.assertRaises(Pole):
                call()
        for e in NO_RATIOS + [-1, (-1, 10 ** 60), 1, (3, 3), 7, [10 ** 60, 10 ** 60]]:
            for function in (wide, Poly((0, 1))):
                self.bad("e", e, within_share, ONE, function, -1, 1, e, -1)
                self.bad("e", e, shows_share, None, ONE, function, -1, 1, e)
        for bits in NO_BITS:
            for function in (wide, Poly((0, 1))):
                self.bad("bits", bits, within_share, ONE, function, -1, 1, 0, bits)
        with self.assertRaises(TooWide):
            within_share(ONE, wide, -1, 1, 0, 0)
        for value in OTHERS + [Paper(0, None, None)]:
            with self.assertRaises(TooWide):
                shows_share(value, ONE, wide, -1, 1, 0)


class TestObjects(Asking):
    def test_they_keep_what_they_are_given(self):
        self.keep_what_they_are_given({
            Paper: ("terms", "above", "under"), Within: ("paper",), Beyond: ("point", "error"), Near: ("terms", "slack"),
            Greatest: ("least", "most", "point", "paper"),
        })

    def test_they_are_defined_here(self):
        self.are_defined_in(errors_of, "Paper", "shows", "Within", "Beyond", "Near", "within", "Greatest", "enclosed_error",
                            "within_share", "shows_share")

    def test_long_ends(self):
        random = Random(54)
        low, high = sorted([random_ratio(random, 60), random_ratio(random, 60)], key=fraction)
        paper = within(CUBE, poly_of("x^3"), low, high, 10 ** 130, 0).paper
        self.assertIs(shows(paper, CUBE, poly_of("x^3"), low, high, 10 ** 130), True)


if __name__ == "__main__":
    unittest.main()
