"""Promise [7]."""

import unittest
from random import Random

from helping import power_of, random_poly

from nearcurves import divisors
from nearcurves.divisors import divisor_by_divisions, divisor_by_residues, inverse, nearest_residue
from nearcurves.errors import BadNumber
from nearcurves.polys import Poly, common, divided, simple_parts, whole_row
from nearcurves.wholerows import divides, long_division, primitive_row, product_row, stripped

ONE = Poly((1,))
NONE = Poly(())
X = Poly((0, 1))


def zero_at(*point):
    """The plain Poly of degree 1 with this zero."""
    return X - Poly((point,) if len(point) == 2 else point)


def plain(poly):
    """A Poly divided by its lead."""
    top, bottom = poly.lead()
    return poly * ((bottom, top) if top > 0 else (-bottom, -top))


def product_of_parts(parts):
    product = ONE
    for place, part in enumerate(parts):
        product = product * power_of(part, place + 1)
    return product


class TestDivided(unittest.TestCase):
    def check(self, one, other):
        result = divided(one, other)
        self.assertIs(type(result), tuple)
        quotient, rest = result
        self.assertEqual(quotient * other + rest, one)
        self.assertLess(rest.degree(), other.degree())

    def test_by_hand(self):
        self.assertEqual(divided(Poly((-1, 0, 0, 1)), Poly((-1, 1))), (Poly((1, 1, 1)), NONE))
        self.assertEqual(divided(Poly((1, 0, 1)), Poly((0, -2))), (Poly((0, (-1, 2))), ONE))
        self.assertEqual(divided(Poly((1, 2)), Poly((0, 0, 1))), (NONE, Poly((1, 2))))
        self.assertEqual(divided(Poly((1, 2)), Poly((4,))), (Poly(((1, 4), (1, 2))), NONE))
        self.assertEqual(divided(NONE, Poly((4, 1))), (NONE, NONE))
        self.assertEqual(divided(Poly(((1, 2), 1)), Poly((3, (2, 3)))), (Poly(((3, 2),)), Poly((-4,))))

    def test_all_degrees(self):
        for degree in range(0, 13):
            for other in range(0, 13):
                self.check(random_poly(degree, degree, 8), random_poly(100 + other, other, 8))

    def test_leads_below_0(self):
        for lead in (-1, -3, (-2, 7)):
            for numbers in ((1, 2, 3, 4), (1, 2, 3, -4), (0, 0, 0, 0, 5)):
                self.check(Poly(numbers), Poly((1, 5, lead)))
                self.check(-Poly(numbers), Poly((lead,)))

    def test_long_numbers(self):
        one, other = random_poly(1, 12, 60), random_poly(2, 12, 60)
        self.check(one, other)
        self.check(one, random_poly(3, 5, 60))
        self.assertEqual(divided(one * other, other), (one, NONE))
        product = power_of(random_poly(4, 8, 60), 4) * power_of(random_poly(5, 2, 60), 4)
        self.assertEqual(product.degree(), 40)
        self.check(product, random_poly(6, 20, 60))
        self.check(product, random_poly(6, 1, 60))

    def test_divisor_of_degree_below_0(self):
        for one in (NONE, ONE, Poly((1, 2, 3))):
            with self.assertRaises(BadNumber) as caught:
                divided(one, Poly((0, 0)))
            self.assertEqual((caught.exception.what, caught.exception.number), ("divisor", 0))

    def test_nothing_changes(self):
        one, other = Poly((1, 2, 3)), Poly((1, 2))
        divided(one, other)
        common(one, other)
        simple_parts(one)
        self.assertEqual((one, other), (Poly((1, 2, 3)), Poly((1, 2))))


class TestCommon(unittest.TestCase):
    def test_of_degree_below_0(self):
        self.assertEqual(common(NONE, NONE), NONE)
        for one in (Poly((-5,)), Poly((1, 2, (-4, 3))), random_poly(1, 12, 60)):
            self.assertEqual(common(NONE, one), plain(one))
            self.assertEqual(common(one, NONE), plain(one))

    def test_by_hand(self):
        self.assertEqual(common(Poly((-1, 0, 1)), Poly((2, 4, 2))), Poly((1, 1)))
        self.assertEqual(common(Poly((-1, 0, 1)), Poly((5, 3))), ONE)
        self.assertEqual(common(Poly((4,)), Poly((0, (1, 2)))), ONE)
        self.assertEqual(common(Poly((4,)), Poly((-6,))), ONE)
        self.assertEqual(common(Poly((0, 0, 0, -2)), Poly((0, 0, 6, 3))), Poly((0, 0, 1)))
        self.assertEqual(common(Poly((1, 2)), Poly(((-1, 2), -1))), Poly(((1, 2), 1)))

    def test_of_products(self):
        for seed in range(30):
            random = Random(seed)
            shared = random_poly(seed, random.randrange(0, 5), 5)
            one = random_poly(100 + seed, random.randrange(0, 5), 5)
            other = random_poly(200 + seed, random.randrange(0, 5), 5)
            self.assertEqual(common(one, other), ONE)
            self.assertEqual(common(shared * one, shared * other), plain(shared))
            self.assertEqual(common(shared * one, shared), plain(shared))

    def test_long_numbers(self):
        shared, one, other = random_poly(1, 12, 60), random_poly(2, 12, 60), random_poly(3, 12, 60)
        self.assertEqual(common(one, other), ONE)
        self.assertEqual(common(shared * one, other * shared), plain(shared))
        self.assertEqual(common(power_of(shared, 3), power_of(shared, 2) * one), plain(power_of(shared, 2)))

    def test_zeros_that_are_near(self):
        near = zero_at(10 ** 60 + 1, 10 ** 60)
        self.assertEqual(common(zero_at(1) * zero_at(2), near * zero_at(2)), zero_at(2))
        self.assertEqual(common(zero_at(1), near), ONE)

    def test_residues_that_mislead(self):
        # Among residues of these primes, the two have a common divisor of degree 1, or their leads are none.
        for bits in divisors.PRIME_BITS[:5]:
            prime = 2 ** bits - 1
            self.assertEqual(common(X, Poly((prime, 1))), ONE)
            self.assertEqual(common(X * Poly((3, 1)), Poly((prime, 1)) * Poly((3, 1))), Poly((3, 1)))
            self.assertEqual(common(Poly((5, prime)), Poly((5, prime)) * Poly((1, 1))), Poly(((5, prime), 1)))
            self.assertEqual(common(Poly((5, prime)), Poly((7, prime))), ONE)
            self.assertEqual(common(Poly((5, prime)), Poly((7, 1))), ONE)


class TestRowsOfIntegers(unittest.TestCase):
    def test_divisions_and_residues_agree(self):
        for seed in range(20):
            shared, one, other = random_poly(seed, seed % 4, 3), random_poly(50 + seed, 3, 3), random_poly(90 + seed, 4, 3)
            rows = whole_row(shared * one), whole_row(shared * other)
            self.assertEqual(divisor_by_divisions(*rows), whole_row(shared))
            self.assertEqual(divisor_by_residues(*rows, 2 ** 521 - 1), whole_row(shared))

    def test_rows_too_long_for_all_residues(self):
        bits = divisors.PRIME_BITS
        divisors.PRIME_BITS = ()
        try:
            self.assertEqual(common(Poly((-1, 0, 1)), Poly((2, 4, 2))), Poly((1, 1)))
            self.assertEqual(common(Poly((1, 1)), Poly((2, 1))), ONE)
        finally:
            divisors.PRIME_BITS = bits
        huge = 10 ** 14000 + 1
        self.assertEqual(common(Poly((1, huge)) * X, Poly((1, huge)) * Poly((1, 1))), Poly(((1, huge), 1)))

    def test_one_prime_may_not_do(self):
        self.assertIsNone(divisor_by_residues([0, 1], [7, 1], 7))
        self.assertIsNone(divisor_by_residues([1, 7], [2, 7], 7))
        self.assertIsNone(divisor_by_residues([1, 5], [1, 5], 7))
        self.assertEqual(divisor_by_residues([1, 5], [1, 5], 127), [1, 5])

    def test_inverse(self):
        for prime in (2, 7, 127, 2 ** 61 - 1):
            for number in (1, 3, 5, -1, prime + 1, 10 ** 30 + 57):
                if number % prime:
                    self.assertEqual(inverse(number, prime) * number % prime, 1)
                    self.assertTrue(0 <= inverse(number, prime) < prime)

    def test_nearest_residue(self):
        self.assertEqual([nearest_residue(number, 7) for number in range(-4, 8)], [3, -3, -2, -1, 0, 1, 2, 3, -3, -2, -1, 0])

    def test_the_primes_are_primes(self):
        # A power of two less 1 is a prime if this row of squares comes to 0; the longest two take too long here.
        for bits in divisors.PRIME_BITS[:-2]:
            prime = 2 ** bits - 1
            square = 4
            for _ in range(bits - 2):
                square = (square * square - 2) % prime
            self.assertEqual(square, 0, bits)

    def test_stripped_and_primitive(self):
        self.assertEqual(stripped([0, 1, 0, 0]), [0, 1])
        self.assertEqual(stripped([0, 0]), [])
        self.assertEqual(primitive_row([4, 0, -6]), [-2, 0, 3])
        self.assertEqual(primitive_row([-5]), [1])

    def test_product_row(self):
        self.assertEqual(product_row([1, 2], [3, 0, -1]), [3, 6, -1, -2])
        self.assertEqual(product_row([], [1, 2, 3]), [])
        self.assertEqual(product_row([1, 2, 3], []), [])
        self.assertEqual(product_row([], []), [])

    def test_long_division(self):
        self.assertEqual(long_division([1, 0, 4], [0, 2]), ([0, 2], [1], 1))
        self.assertEqual(long_division([1, 0, 4], [0, -6]), ([0, -2], [3], 3))

    def test_divides(self):
        self.assertIs(divides([1, 1], [-1, 0, 1]), True)
        self.assertIs(divides([1, 2], [1, 1]), False)
        self.assertIs(divides([1, 1], [1, 2]), False)
        self.assertIs(divides([1, 1, 1], [1, 1]), False)
        self.assertIs(divides([1], [5]), True)


class TestSimpleParts(unittest.TestCase):
    def check(self, lead, parts):
        poly = product_of_parts(parts) * lead
        told = simple_parts(poly)
        self.assertIs(type(told), tuple)
        self.assertEqual(told, tuple(parts))

    def test_below_degree_1(self):
        for numbers in ((), (1,), (-7,), ((1, 2),)):
            self.assertEqual(simple_parts(Poly(numbers)), ())

    def test_by_hand(self):
        one, two, three = zero_at(1), zero_at(2), zero_at(-1, 2)
        wide = Poly((1, 0, 1))
        for lead in (1, -1, 5, (-2, 3), (10 ** 60, 7)):
            self.check(lead, [one])
            self.check(lead, [one * two * three])
            self.check(lead, [ONE, one])
            self.check(lead, [one, two])
            self.check(lead, [one * wide, two, three])
            self.check(lead, [ONE, ONE, wide])
            self.check(lead, [one, ONE, two * wide])
            self.check(lead, [ONE, one * three, ONE, ONE, two])
            self.check(lead, [wide, Poly((2, 0, 1)), Poly((1, 1, 1))])
            self.check(lead, [X, one])
            self.check(lead, [one, X])

    def test_powers_of_x(self):
        for power in range(1, 41):
            self.check(-3, [ONE] * (power - 1) + [X])

    def test_not_all_zeros_are_ratios(self):
        self.check(2, [Poly((-2, 0, 1)), Poly((-3, 0, 1))])
        self.check(2, [Poly((-2, 0, 0, 1)), ONE, Poly((-3, 0, 1))])

    def test_zeros_that_are_near(self):
        self.check(1, [zero_at(1) * zero_at(10 ** 60 + 1, 10 ** 60)])
        self.check(1, [zero_at(1), zero_at(10 ** 60 + 1, 10 ** 60)])

    def test_long_numbers(self):
        single, double = plain(random_poly(1, 16, 60)), plain(random_poly(2, 12, 60))
        self.check((-7, 9), [single, double])
        self.check((10 ** 60 - 1, 10 ** 59), [single])
        self.check(-1, [ONE, ONE, double])
        self.check(3, [plain(random_poly(3, 4, 60)), plain(random_poly(4, 3, 60)), ONE, plain(random_poly(5, 2, 60))])

    def test_random_products(self):
        for seed in range(20):
            random = Random(seed)
            parts = [plain(random_poly(1000 * seed + place, random.randrange(0, 3), 4)) for place in range(4)]
            while parts and parts[-1] == ONE:
                parts.pop()
            self.check(random.choice((1, -2, (5, 7))), parts)


if __name__ == "__main__":
    unittest.main()
