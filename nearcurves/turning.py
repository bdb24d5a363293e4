"""Polynomials at integers from 0 on: where they change their signs, and so where they turn.

A row of integers stands for a polynomial. Intervals are halved; where they have the length 1, no integer is left
between their ends, so this comes to an end wherever zeros are.
"""

from nearcurves.wholecorners import halves_of, interval_corners, sign_changes, value_at
from nearcurves.wholerows import stripped


def zero_bits(row):
    """Bits such that all zeros of a row of one or more numbers are below 2 ** bits."""
    most = max([abs(number) for number in row])
    return (most // abs(row[-1]) + 1).bit_length()


def turns(row, most):
    """Integers k, perhaps too many, such that each zero at which the row changes its sign lies from k to k + 1.

    So for all zeros from 0 to the most, or from 0 on if this is None.
    """
    row = stripped(row)
    if len(row) < 2:
        return []
    bits = zero_bits(row) if most is None else min(zero_bits(row), most.bit_length())
    found = []
    waiting = [(0, bits, interval_corners(row, 0, 1 << bits, len(row) - 1))]
    while waiting:
        start, level, corners = waiting.pop()
        changes = sign_changes(corners)
        end = start + (1 << level)
        if corners[0] == 0:
            found.append(start)
        if corners[-1] == 0:
            found.append(end)
        if changes == 1 and corners[0] != 0 and corners[-1] != 0:
            found.append(cell_between(row, start, end))
        elif changes > 0 and level == 0:
            found.append(start)
        elif changes > 0:
            below, above = halves_of(corners)
            waiting.append((start + (1 << (level - 1)), level - 1, above))
            waiting.append((start, level - 1, below))
    return found


def cell_between(row, low, high):
    """The integer k such that the one change of sign between two integers lies from k to k + 1."""
    rising = value_at(row, low, 1) < 0
    while high - low > 1:
        middle = (low + high) // 2
        if (value_at(row, middle, 1) < 0) == rising:
            low = middle
        else:
            high = middle
    return low


def slope_of_row(row):
    """The row of the slope."""
    return [power * number for power, number in enumerate(row)][1:]
