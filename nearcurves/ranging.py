"""The nested ranges of rows on a grid, with the ties that show them."""

from math import lcm

from nearcurves.fits import greatest_sum
from nearcurves.lattices import Lattice, tie_of, whole_ends
from nearcurves.pointfits import nearest, size_sum, sum_of_products
from nearcurves.ratios import floor_of, lower, minus, plus, share, times


def power_table(points, many):
    """The first powers of all points, as rows of ratios."""
    table = []
    for point in points.points:
        row = [(1, 1)]
        for _ in range(many - 1):
            row.append(times(row[-1], point))
        table.append(row)
    return table


def rest_numbers(points, steps, table, start):
    """The numbers of all points less the values of the polynomial of a start."""
    found = []
    for number, powers in zip(points.numbers, table):
        left = number
        for whole, step, power in zip(start, steps, powers):
            left = minus(left, times(whole, times(step, power)))
        found.append(left)
    return found


def range_rows(points, steps, e):
    """Rows (start, low, high, below, above) of all nested ranges, in their order."""
    found = nearest(points, tuple(range(len(steps))))
    if lower(e, found.error):
        return [barred_row(points, steps, e, found)]
    lattice = Lattice(points, steps, list(range(len(steps))))
    sizes = [times(e, load) for load in lattice.loads]
    divisor = 1
    for _, bottom in sizes:
        divisor = lcm(divisor, bottom)
    rooms = [top * (divisor // bottom) for top, bottom in sizes]
    rows = []
    waiting = [((), lattice.numbers)]
    while waiting:
        start, numbers = waiting.pop()
        place = len(start)
        level = lattice.levels[place]
        low, high = whole_ends(level.ends_for(numbers, rooms, divisor))
        if level.many == 1:
            below, above = last_ties(points, lattice, numbers, rooms, divisor)
        else:
            below = tie_of(lattice, level.below, steps[place])
            above = tie_of(lattice, level.above, steps[place])
        rows.append((start, low, high, below, above))
        if level.many > 1:
            for whole in range(high, low - 1, -1):
                waiting.append(((*start, whole), lattice.less(numbers, place, whole)))
    return rows


def last_ties(points, lattice, numbers, rooms, divisor):
    """The ties for the last power: each of one point, that which bounds it closest."""
    power = len(lattice.order) - 1
    best = [None, None]
    for index, (number, room) in enumerate(zip(numbers, rooms)):
        height = lattice.heights[index][-1]
        if height != 0:
            middle = divisor * number * (1 if height > 0 else -1)
            for place, sign in enumerate((-1, 1)):
                bound = (sign * middle + room, abs(height))
                if best[place] is None or lower(bound, best[place][0]):
                    best[place] = (bound, index)
    ties = []
    for sign, (_, index) in zip((-1, 1), best):
        weight = sign
        for _ in range(power):
            weight = share(weight, points.points[index])
        ties.append(((index, plus(weight, 0)),))
    return ties


def barred_row(points, steps, e, found):
    """The one row where no polynomial at all has an error of at most e: as much of the bar makes each bound low."""
    powers = tuple(range(len(steps)))
    ties = []
    for sign, most in ((-1, steps[0]), (1, (0, 1))):
        row = [(sign, 1)] + [(0, 1)] * (len(steps) - 1)
        tie = greatest_sum(points.points, points.numbers, points.weights, powers, row, found.error)[1]
        bound = plus(sum_of_products(tie, points.numbers), times(e, size_sum(tie, points)))
        # The bound falls by the error less e for each bar that is taken away.
        spare = share(minus(bound, most), minus(found.error, e))
        factor = max(0, floor_of(spare) + 1)
        ties.append(less_bars(dict(tie), dict(found.bar), factor))
    return (), 0, -1, ties[0], ties[1]


def less_bars(tie, bar, factor):
    """The shares of a tie less so many of those of a bar."""
    found = []
    for index in sorted({**tie, **bar}):
        part = minus(tie.get(index, (0, 1)), times(factor, bar.get(index, (0, 1))))
        if part[0] != 0:
            found.append((index, part))
    return tuple(found)
