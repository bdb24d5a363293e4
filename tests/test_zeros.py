"""Promises [15] and [16], and the sizes of [17]."""

import unittest
from fractions import Fraction
from math import isqrt
from random import Random

from checking import is_told_ratio, product_of, split_holds, worth
from helping import NO_BITS, NO_INTERVALS, Asking, fraction, pair, power_of, random_poly, random_ratio

from nearcurves.polys import Poly, poly_of
from nearcurves.signs import Split, count_zeros, least_value, zeros


def line(zero):
    """x less a Fraction."""
    return Poly((pair(-zero), 1))


def roots(shift, inner):
    """The Poly with the zeros shift - sqrt(inner) and shift + sqrt(inner)."""
    return power_of(line(shift), 2) - Poly((inner,))


def cell_of_root(shift, sign, inner, bits):
    """The cell of shift + sign * sqrt(inner), an inner that is no square, by whole square roots."""
    more = bits + 200
    size = isqrt(inner << (2 * more))
    near = shift * 2 ** more + (size if sign > 0 else -size - 1)
    place = near.__floor__() >> (more - bits)
    return (pair(Fraction(place, 2 ** bits)), pair(Fraction(place + 1, 2 ** bits)))


class TestZeros(Asking):
    def told(self, poly, low, high, bits, rows):
        found = zeros(poly, low, high, bits)
        self.assertEqual(found, tuple(rows))
        self.assertIs(type(found), tuple)
        self.assertTrue(all(type(row) is tuple and is_told_ratio(row[0]) and is_told_ratio(row[1]) for row in found))
        self.assertEqual(count_zeros(poly, low, high), len(rows))

    def test_ratios_up_to_three_times(self):
        random = Random(20)
        for digits in (1, 3, 30):
            for bits in (0, 7, 60):
                planted = {}
                for _ in range(random.randrange(1, 6)):
                    planted[fraction(random_ratio(random, digits))] = random.randrange(1, 4)
                poly = product_of(*[power_of(line(zero), many) for zero, many in planted.items()])
                poly = poly * Poly((random_ratio(random, 20),)) * poly_of("x^2 + x + 1")
                rows = [(pair(zero), pair(zero), planted[zero]) for zero in sorted(planted)]
                self.told(poly, -10 ** digits, 10 ** digits, bits, rows)
                inner = sorted(planted)
                self.told(poly, pair(inner[0]), pair(inner[-1] + 1), bits, rows)
                self.told(poly, pair(inner[0] - 1), pair(inner[-1]), bits, rows)
                self.told(poly, pair(inner[0] + Fraction(1, 10 ** 70)), pair(inner[-1] + 1), bits, rows[1:])
                self.told(poly, pair(inner[0] - 1), pair(inner[-1] - Fraction(1, 10 ** 70)), bits, rows[:-1])

    def test_leads_with_many_divisors(self):
        # Such as all primes from 200 to 300 divide, or two zeros that are alike among the residues of many primes.
        product = 1
        for number in range(201, 300, 2):
            if all(number % divisor for divisor in range(3, 18, 2)):
                product *= number
        for zero, other in ((Fraction(1, product), Fraction(3)), (Fraction(2, 7), Fraction(2, 7) + product), (Fraction(0), Fraction(product))):
            poly = line(zero) * line(other) * poly_of("x^2 - 2") * (product, 5)
            rows = [(pair(zero), pair(zero), 1), cell_of_root(Fraction(0), 1, 2, 9) + (1,), (pair(other), pair(other), 1)]
            self.told(poly, -1, product + 1, 9, rows)

    def test_square_roots_with_shifts(self):
        for shift in (Fraction(0), Fraction(1, 3), Fraction(-7, 1000), Fraction(12345678901234567, 10 ** 16)):
            for inner in (2, 3, 7, 10 ** 4 + 1):
                for bits in (0, 1, 13, 60):
                    for many in (1, 2):
                        poly = power_of(roots(shift, inner), many)
                        rows = [cell_of_root(shift, sign, inner, bits) + (many,) for sign in (-1, 1)]
                        self.told(poly, -200, 200, bits, rows)
                        self.told(poly, pair(shift), 200, bits, rows[1:])
                        self.told(-poly, -200, pair(shift), bits, rows[:1])

    def test_two_zeros_with_the_same_row(self):
        poly = roots(Fraction(0), 2) * power_of(roots(Fraction(1, 10 ** 30), 2), 2)
        cell = cell_of_root(Fraction(0), 1, 2, 60)
        self.told(poly, 0, 2, 60, [cell + (1,), cell + (2,)])
        # A ratio and what is none within one cell, in their order.
        near = Fraction(14142135623730950488016887242, 10 ** 28)
        other = near + Fraction(1, 10 ** 28)
        poly = roots(Fraction(0), 2) * line(near) * power_of(line(other), 3)
        self.told(poly, 0, 2, 60, [(pair(near),) * 2 + (1,), cell + (1,), (pair(other),) * 2 + (3,)])

    def test_factors_without_zeros_and_constants(self):
        self.told(poly_of("x^2 + 1"), -100, 100, 5, [])
        self.told(power_of(poly_of("x^2 - 2*x + 1000001/1000000"), 3), -100, 100, 5, [])
        self.told(Poly((7,)), -100, 100, 5, [])
        self.told(Poly((0, 1)), 1, 2, 5, [])
        self.told(Poly((0, 1)), -1, 1, 5, [((0, 1), (0, 1), 1)])
        self.told(poly_of("x^2 - 2"), -1, 1, 5, [])

    def test_drawn_ones(self):
        random = Random(22)
        for _ in range(60):
            poly = random_poly(random.randrange(10 ** 6), random.randrange(1, 11), random.choice((1, 1, 2, 30)))
            if random.random() < 0.3:
                poly = power_of(poly, 2)
            low, high = random.choice(((-100, 100), (0, 1), ((-3, 7), (12, 5))))
            bits = random.choice((0, 3, 20, 60))
            self.fits(poly, low, high, bits, zeros(poly, low, high, bits))

    def fits(self, poly, low, high, bits, rows):
        """By remainders: how often signs change in a row of them tells how many unlike zeros lie between points."""
        self.assertEqual(len(rows), self.many_by_remainders(poly, fraction(low), fraction(high)))
        self.assertEqual(count_zeros(poly, low, high), len(rows))
        for one, other, many in rows:
            self.assertGreaterEqual(many, 1)
            if one == other:
                self.assertEqual(worth(poly, fraction(one)), 0)
            else:
                place = fraction(one) * 2 ** bits
                self.assertEqual((place.denominator, fraction(other) * 2 ** bits), (1, place + 1))
                wanted = len([row for row in rows if row[:2] == (one, other)])
                ends = [max(fraction(low), fraction(one)), min(fraction(high), fraction(other))]
                at_ends = sum(1 for end in set(ends) if worth(poly, end) == 0)
                inner = [row for row in rows if row[0] == row[1] and ends[0] < fraction(row[0]) < ends[1]]
                self.assertEqual(self.many_by_remainders(poly, *ends) - at_ends - len(inner), wanted)

    def many_by_remainders(self, poly, low, high):
        row = [[fraction(number) for number in poly.numbers]]
        row.append([power * number for power, number in enumerate(row[0])][1:])
        while row[-1]:
            rest = list(row[-2])
            while len(rest) >= len(row[-1]):
                many = rest[-1] / row[-1][-1]
                shift = len(rest) - len(row[-1])
                for k, number in enumerate(row[-1]):
                    rest[k + shift] -= many * number
                while rest and rest[-1] == 0:
                    rest.pop()
            row.append([-number for number in rest])
        changes = []
        for point in (low, high):
            values = [sum(number * point ** power for power, number in enumerate(numbers)) for numbers in row[:-1]]
            # Divided by the last one, the greatest common divisor, the row has no zero twice.
            signs = [value > 0 for value in values if value != 0]
            changes.append(sum(one != other for one, other in zip(signs, signs[1:])))
        if worth(poly, low) == 0 or worth(poly, high) == 0:
            inner = Fraction(1, 10 ** 40)
            ends = sum(1 for end in {low, high} if worth(poly, end) == 0)
            return self.many_by_remainders(poly, low + inner, high - inner) + ends
        return changes[0] - changes[1]

    def test_sizes(self):
        random = Random(23)
        poly = random_poly(24, 30, 160)
        short = random_poly(24, 7, 30)
        self.fits(short, -100, 100, 60, zeros(short, -100, 100, 60))
        found = zeros(poly, -100, 100, 60)
        for one, other, many in found:
            self.assertEqual(many, 1)
            self.assertLess(worth(poly, fraction(one)) * worth(poly, fraction(other)), 0)
        planted = [fraction(random_ratio(random, 12)) for _ in range(10)]
        poly = product_of(*[power_of(line(zero), 3) for zero in planted])
        rows = [(pair(zero), pair(zero), 3) for zero in sorted(planted)]
        self.told(poly, -10 ** 12, 10 ** 12, 60, rows)

    def test_errors_in_their_order(self):
        for low, high in NO_INTERVALS:
            self.bad_interval(low, high, count_zeros, Poly(()), low, high)
            self.bad_interval(low, high, zeros, Poly(()), low, high, -1)
        self.bad("degree", -1, count_zeros, Poly(()), 0, 1)
        for bits in NO_BITS:
            self.bad("degree", -1, zeros, Poly(()), 0, 1, bits)
            self.bad("bits", bits, zeros, Poly((1, 1)), 0, 1, bits)
        self.bad("degree", -1, zeros, Poly(()), 0, 1, 5)


class TestLeastValue(Asking):
    def told(self, poly, low, high, bits, number=None):
        found = least_value(poly, low, high, bits)
        gap = Fraction(1, 2 ** bits)
        floor = fraction(found.number)
        self.assertTrue(is_told_ratio(found.number) and is_told_ratio(found.point))
        self.assertEqual((floor / gap).denominator, 1)
        self.assertIsInstance(found.split, Split)
        self.assertTrue(split_holds(poly - found.number, low, high, found.split))
        self.assertTrue(fraction(low) <= fraction(found.point) <= fraction(high))
        self.assertLess(worth(poly, fraction(found.point)), floor + gap)
        if number is not None:
            self.assertEqual(floor, number)

    def test_constants(self):
        for bits in (0, 5, 60):
            self.told(Poly(()), -1, 1, bits, 0)
            self.told(Poly((3,)), -1, 1, bits, 3)
            self.told(Poly(((-1, 3),)), -1, 1, bits, Fraction(-2 ** bits // 3, 2 ** bits))

    def test_at_ends_and_within(self):
        self.told(Poly((0, 1)), (-1, 3), 2, 0, -1)
        self.told(Poly((0, 1)), (-1, 3), 2, 4, Fraction(-6, 16))
        self.told(Poly((0, -1)), -1, (5, 2), 1, Fraction(-5, 2))
        self.told(poly_of("x^2 - x"), -1, 3, 2, Fraction(-1, 4))
        self.told(poly_of("x^2 - x"), -1, 3, 1, Fraction(-1, 2))
        self.told(poly_of("x^2 - x"), -1, 3, 60, Fraction(-1, 4))

    def test_at_what_is_no_ratio(self):
        poly = poly_of("x^4 - 4*x^2")
        for bits in (0, 1, 30, 60):
            gap = Fraction(1, 2 ** bits)
            for more in (Fraction(0), gap, 5 * gap, Fraction(1, 10 ** 30), -Fraction(1, 10 ** 30), gap / 2, -gap / 3):
                least = -4 + more
                wanted = (least / gap).__floor__() * gap
                self.told(poly + pair(more), -2, 2, bits, wanted)
                self.told(poly + pair(more), 1, (15, 10), bits, wanted)

    def test_many_least_values(self):
        before, wave = Poly((1,)), Poly((0, 1))
        for _ in range(11):
            before, wave = wave, Poly((0, 2)) * wave - before
        for bits in (0, 20, 60):
            self.told(wave, -1, 1, bits, -1)
            self.told(wave * (1, 3), -1, 1, bits, Fraction(-(2 ** bits) // 3, 2 ** bits))

    def test_drawn_ones(self):
        random = Random(24)
        for _ in range(40):
            poly = random_poly(random.randrange(10 ** 6), random.randrange(0, 9), random.choice((1, 3, 20)))
            low, high = random.choice(((-1, 1), (0, (7, 3)), (-100, 100), ((1, 10 ** 30), (2, 10 ** 30))))
            self.told(poly, low, high, random.choice((0, 3, 30, 60)))

    def test_sizes(self):
        random = Random(25)
        low, high = sorted([random_ratio(random, 60), random_ratio(random, 60)], key=fraction)
        self.told(random_poly(26, 30, 160), -2, 2, 60)
        self.told(random_poly(27, 12, 160), low, high, 60)

    def test_errors_in_their_order(self):
        for low, high in NO_INTERVALS:
            self.bad_interval(low, high, least_value, Poly((1,)), low, high, None)
        for bits in NO_BITS:
            self.bad("bits", bits, least_value, Poly((1,)), 0, 1, bits)
            self.bad("bits", bits, least_value, Poly(()), 0, 1, bits)


if __name__ == "__main__":
    unittest.main()
