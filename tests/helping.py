"""What several tests need."""

import unittest
from fractions import Fraction
from random import Random

from nearcurves.errors import BadInterval, BadNumber, BadRow
from nearcurves.polys import Poly

# What is no ratio, of many kinds.
NO_RATIOS = [
    None, True, False, "", "1", "1/2", b"1", 1.0, 0.5, (), [], (1,), [1], (1, 2, 3), [1, 2, 3], (1, 0), [1, 0], (0, 0),
    (1, -1), [3, -2], (True, 1), (1, True), [False, 1], [1, True], (1.0, 2), (1, 2.0), ("1", 2), (1, "2"), (None, 1),
    (1, None), ((1, 2), 3), (1, (2, 3)), [[1, 2], [3, 4]], ((1, 2),), {}, {1: 2, 3: 4}, {1, 2}, range(2), Fraction(1, 2),
    Poly((1, 2)), object(), int, len, "12", b"12",
]

# Pairs of values that are no interval.
NO_INTERVALS = [
    (1, 1), (1, 0), ((1, 2), (2, 4)), ((1, 2), [1, 2]), (0, True), (False, 1), (None, 1), (0, None), ("0", "1"), (0, 1.0),
    ((0, 0), 1), (0, (1, -1)), ([], []), (Fraction(0), 1), (0, Poly((1,))),
]

# What is no number of bits of a gap.
NO_BITS = [-1, 61, 10 ** 30, True, False, None, "1", 1.0, (1, 1), [], Poly(())]


class Asking(unittest.TestCase):
    def bad(self, what, number, function, *arguments):
        with self.assertRaises(BadNumber) as caught:
            function(*arguments)
        self.assertEqual(caught.exception.what, what)
        self.assertIs(caught.exception.number, number)

    def bad_interval(self, low, high, function, *arguments):
        with self.assertRaises(BadInterval) as caught:
            function(*arguments)
        self.assertIs(caught.exception.low, low)
        self.assertIs(caught.exception.high, high)

    def bad_row(self, row, function, *arguments):
        with self.assertRaises(BadRow) as caught:
            function(*arguments)
        self.assertIs(caught.exception.row, row)

    def keep_what_they_are_given(self, fields):
        """That classes, a dict with the names of their attributes, keep values just as they are, and lists as tuples."""
        for kind, names in fields.items():
            for value in (0, None, True, "text", (2, 4), (), {}, Poly((1,)), object(), ((1, 2), [3]), 1.5):
                made = kind(*[value] * len(names))
                for name in names:
                    self.assertIs(getattr(made, name), value)
            inner = [1]
            row = [inner, 2]
            made = kind(*[row] * len(names))
            row.append(3)
            for name in names:
                self.assertEqual(getattr(made, name), ([1], 2))
                self.assertIs(getattr(made, name)[0], inner)
            self.assertNotEqual(kind(*range(len(names))), kind(*range(len(names))))

    def are_defined_in(self, module, *names):
        for name in names:
            self.assertEqual(getattr(module, name).__module__, module.__name__)


def fraction(value):
    """A ratio, passed in any way, as a Fraction."""
    return Fraction(value) if isinstance(value, int) else Fraction(*value)


def pair(number):
    """A Fraction, or an integer, as a ratio is told."""
    number = Fraction(number)
    return (number.numerator, number.denominator)


def random_ratio(random, digits):
    """A pair in some terms, with at most so many digits above and below."""
    return (random.randrange(-10 ** digits + 1, 10 ** digits), random.randrange(1, 10 ** digits))


def random_poly(seed, degree, digits):
    """A Poly of just this degree."""
    random = Random(seed)
    numbers = [random_ratio(random, digits) for _ in range(degree)]
    return Poly(numbers + [(random.choice((1, -1)) * random.randrange(1, 10 ** digits), random.randrange(1, 10 ** digits))])


def power_of(poly, many):
    """The product of a Poly and itself, so many times."""
    product = Poly((1,))
    for _ in range(many):
        product = product * poly
    return product
