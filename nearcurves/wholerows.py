"""Rows of integers: the numbers of a polynomial for the powers 0, 1, 2, .. in this order.

Where a row has a last integer other than 0, it is called stripped; the stripped row of the degree -1 is empty.
"""

from math import gcd


def stripped(row):
    """A row without the zeros behind its last other integer."""
    many = len(row)
    while many > 0 and row[many - 1] == 0:
        many = many - 1
    return row[:many]


def product_row(one, other):
    """The row of the product of two polynomials."""
    if not one or not other:
        return []
    ends = range(len(one) + len(other) - 1)
    return [product_number(one, other, power) for power in ends]


def product_number(one, other, power):
    """The number of a power in the product of two polynomials."""
    first = max(0, power - len(other) + 1)
    last = min(power, len(one) - 1)
    return sum([one[k] * other[power - k] for k in range(first, last + 1)])


def primitive_row(row):
    """A stripped row, not empty, divided by the greatest integer that divides all of it; the last one above 0."""
    shared = 0
    for number in row:
        shared = gcd(shared, number)
    if row[-1] < 0:
        shared = -shared
    return [number // shared for number in row]


def without_lead(one, other, factor, number):
    """The stripped row of factor * one less number * x ** k * other, k being chosen to make other as long as one.

    The leads of both are to be equal, so that they leave nothing.
    """
    moved = [0] * (len(one) - len(other)) + list(other)
    return stripped([factor * item - number * low for item, low in zip(one, moved)])


def long_division(one, other):
    """Rows quotient and rest, and an integer scale above 0, such that scale * one is quotient * other + rest.

    Both rows are stripped, other is not empty, and rest, a stripped row, is shorter than it.
    """
    quotient = [0] * max(0, len(one) - len(other) + 1)
    rest = list(one)
    scale = 1
    while len(rest) >= len(other):
        shared = gcd(rest[-1], other[-1])
        if other[-1] < 0:
            shared = -shared
        factor = other[-1] // shared
        number = rest[-1] // shared
        shift = len(rest) - len(other)
        quotient = [factor * item for item in quotient]
        quotient[shift] = number
        rest = without_lead(rest, other, factor, number)
        scale = scale * factor
    return quotient, rest, scale


def divides(one, other):
    """Whether one, a primitive row, divides other, a stripped row."""
    rest = list(other)
    while len(rest) >= len(one):
        # A primitive row that divides a row of integers leaves a quotient of integers.
        if rest[-1] % one[-1] != 0:
            return False
        rest = without_lead(rest, one, 1, rest[-1] // one[-1])
    return not rest
