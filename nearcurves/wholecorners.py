"""Corners of polynomials as rows of integers: each one is the corner times some integer above 0, the same for all."""

from math import comb, lcm

from nearcurves.ratios import lowest, parts_of


def stretched_row(row, low, high):
    """The row of p(low + (high - low) * t) in powers of t, for a row of integers p, and what it was multiplied by."""
    low_top, low_bottom = parts_of(low, "low")
    high_top, high_bottom = parts_of(high, "high")
    bottom = lcm(low_bottom, high_bottom)
    start = low_top * (bottom // low_bottom)
    step = high_top * (bottom // high_bottom) - start
    moved = moved_row(scaled_row(row[::-1], bottom)[::-1], start)
    factor = 1
    for _ in range(len(row) - 1):
        factor = factor * bottom
    return scaled_row(moved, step), factor


def scaled_row(row, factor):
    """The row with its numbers multiplied by 1, the factor, the factor twice, and so on."""
    if factor == 1:
        return list(row)
    scaled = []
    power = 1
    for number in row:
        scaled.append(number * power)
        power = power * factor
    return scaled


def moved_row(row, start):
    """The row of p(start + t) in powers of t."""
    moved = list(row)
    if start == 0:
        return moved
    for first in range(len(row) - 1):
        carried = 0
        for place in range(len(row) - 1, first - 1, -1):
            carried = moved[place] + start * carried
            moved[place] = carried
    return moved


def corner_row(row, degree):
    """The corners of a row from 0 to 1 for a degree that is not below its own, and what they were multiplied by."""
    ways = [comb(degree, power) for power in range(degree + 1)]
    scale = 1
    for number in ways:
        scale = lcm(scale, number)
    found = [number * (scale // many) for number, many in zip(row, ways)]
    found = found + [0] * (degree + 1 - len(found))
    for first in range(1, degree + 1):
        found = found[:first] + [one + other for one, other in zip(found[first:], found[first - 1:])]
    return found, scale


def interval_corners(row, low, high, degree):
    """The corners of a row of integers on an interval, times some integer above 0."""
    return corner_row(stretched_row(row, low, high)[0], degree)[0]


def halves_of(row):
    """The corners on both halves of an interval, multiplied by 2 as often as the row has followers of its first."""
    lower_half = [row[0]]
    upper_half = [row[-1]]
    sums = row
    while len(sums) > 1:
        sums = [one + other for one, other in zip(sums, sums[1:])]
        lower_half.append(sums[0])
        upper_half.append(sums[-1])
    last = len(row) - 1
    below = [number << (last - place) for place, number in enumerate(lower_half)]
    above = [number << (last - place) for place, number in enumerate(upper_half)]
    return below, above[::-1]


def inner_point(low, high, place, level):
    """The ratio low + (high - low) * place / 2 ** level."""
    low_top, low_bottom = parts_of(low, "low")
    high_top, high_bottom = parts_of(high, "high")
    start = low_top * high_bottom
    step = high_top * low_bottom - start
    return lowest((start << level) + step * place, (low_bottom * high_bottom) << level)


def sign_changes(row):
    """How often neighbors among the numbers other than 0 have unlike signs."""
    signs = [number > 0 for number in row if number != 0]
    return sum([1 for one, other in zip(signs, signs[1:]) if one != other])


def value_at(row, top, bottom):
    """The value of a row of integers at top / bottom, times bottom as often as the row has followers of its first."""
    value = 0
    scale = 1
    for number in row[::-1]:
        value = value * top + number * scale
        scale = scale * bottom
    return value
