"""Ratios: an integer, or a pair of integers of which the second one is above 0, stands for one."""

from math import gcd

from nearcurves.errors import BadNumber


def is_whole(value):
    """Whether any value is an integer; True and False are none."""
    return isinstance(value, int) and not isinstance(value, bool)


def is_ratio(value):
    """Whether any value is a ratio."""
    if isinstance(value, (tuple, list)):
        return len(value) == 2 and is_whole(value[0]) and is_whole(value[1]) and value[1] > 0
    return is_whole(value)


def is_ratio_row(value):
    """Whether any value is a tuple or list of ratios."""
    return isinstance(value, (tuple, list)) and all([is_ratio(item) for item in value])


def lowest(top, bottom):
    """The pair of top / bottom in lowest terms, for integers, bottom not 0."""
    shared = gcd(top, bottom)
    if bottom < 0:
        shared = -shared
    return top // shared, bottom // shared


def parts_of(value, what):
    """Top and bottom of a ratio, in the terms in which it is passed."""
    if not is_ratio(value):
        raise BadNumber(what, value)
    if isinstance(value, int):
        return value, 1
    return value[0], value[1]


def told(value, what):
    """A ratio as a pair in lowest terms."""
    top, bottom = parts_of(value, what)
    return lowest(top, bottom)


def plus(one, other):
    """The sum of two ratios."""
    top, bottom = parts_of(one, "ratio")
    other_top, other_bottom = parts_of(other, "ratio")
    return lowest(top * other_bottom + other_top * bottom, bottom * other_bottom)


def minus(one, other):
    """One less other."""
    top, bottom = parts_of(one, "ratio")
    other_top, other_bottom = parts_of(other, "ratio")
    return lowest(top * other_bottom - other_top * bottom, bottom * other_bottom)


def times(one, other):
    """The product of two ratios."""
    top, bottom = parts_of(one, "ratio")
    other_top, other_bottom = parts_of(other, "ratio")
    return lowest(top * other_top, bottom * other_bottom)


def share(one, other):
    """One divided by other."""
    top, bottom = parts_of(one, "ratio")
    other_top, other_bottom = parts_of(other, "ratio")
    if other_top == 0:
        raise BadNumber("divisor", other)
    return lowest(top * other_bottom, bottom * other_top)


def lower(one, other):
    """Whether one is below other."""
    top, bottom = parts_of(one, "ratio")
    other_top, other_bottom = parts_of(other, "ratio")
    return top * other_bottom < other_top * bottom


def floor_of(value):
    """The greatest integer that is not above a ratio."""
    top, bottom = parts_of(value, "ratio")
    return top // bottom


def nearest_whole(value):
    """The integer nearest to a ratio, of two that are equally near the greater one."""
    top, bottom = parts_of(value, "ratio")
    return (2 * top + bottom) // (2 * bottom)


def digits_of(number):
    """The digits of an integer from 0 on."""
    # str refuses integers of some thousand digits, so long ones go through it piece by piece.
    pieces = []
    rest = number
    while rest >= 10 ** 64:
        rest, piece = divmod(rest, 10 ** 64)
        pieces.append(str(piece).zfill(64))
    pieces.append(str(rest))
    return "".join(pieces[::-1])


def ratio_text(value):
    """The text of a ratio in lowest terms."""
    top, bottom = told(value, "ratio")
    sign = "-" if top < 0 else ""
    below = "" if bottom == 1 else "/" + digits_of(bottom)
    return sign + digits_of(abs(top)) + below
