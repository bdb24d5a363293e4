"""Polynomials on grids, whose numbers are integers times steps."""

from nearcurves.checks import held, is_whole_within, need_ratio_from_zero
from nearcurves.errors import BadNumber, BadRow, Fewer, TooMany, Unlike
from nearcurves.lattices import best_rows, rows_within
from nearcurves.pointfits import are_shares, error_of, nearest
from nearcurves.polys import Poly, number_of
from nearcurves.ratios import is_ratio_row, is_whole, lower, nearest_whole, plus, share, times, told
from nearcurves.ranging import power_table, range_rows, rest_numbers
from nearcurves.targets import size_of

MOST_STEPS = 5
MOST_DEGREE = 4
MOST_ROWS = 300
MOST_RANGE = 2000
# Best rows are told only if they are few, but while better ones are sought more of them may be equal.
MANY_ROWS = 1000000


class OnGrid:
    """The least error on a grid, and all rows that have it."""

    def __init__(self, error, rows):
        self.error = held(error)
        self.rows = held(rows)


class Range:
    """The range of the next integer of rows that begin with a start, and two ties that show it."""

    def __init__(self, start, low, high, below, above):
        self.start = held(start)
        self.low = held(low)
        self.high = held(high)
        self.below = held(below)
        self.above = held(above)


def need_steps(steps):
    """BadRow for what are no steps."""
    if not is_ratio_row(steps) or not 1 <= len(steps) <= MOST_STEPS or not all([lower(0, step) for step in steps]):
        raise BadRow(steps)


def need_grid(points, steps):
    """The errors of points on a grid."""
    need_steps(steps)
    if len(points.points) < len(steps):
        raise Fewer("points")


def told_steps(steps):
    """Steps as pairs."""
    return [told(step, "step") for step in steps]


def on_grid(poly, steps):
    """The row of a polynomial; None if it is not on the grid."""
    need_steps(steps)
    if poly.degree() >= len(steps):
        return None
    row = [share(number_of(poly.numbers, power), step) for power, step in enumerate(steps)]
    return tuple([top for top, _ in row]) if all([bottom == 1 for _, bottom in row]) else None


def grid_poly(row, steps):
    """The polynomial of a row."""
    need_steps(steps)
    if not isinstance(row, (tuple, list)) or len(row) != len(steps) or not all([is_whole(item) for item in row]):
        raise BadRow(row)
    return Poly([times(item, step) for item, step in zip(row, steps)])


def nearest_row(poly, steps):
    """The row of the integers that, times the steps, come nearest to the numbers of a polynomial."""
    need_steps(steps)
    if poly.degree() >= len(steps):
        raise Unlike("degree")
    return tuple([nearest_whole(share(number_of(poly.numbers, power), step)) for power, step in enumerate(steps)])


def all_on_grid(points, steps, e):
    """All rows whose polynomials have an error of at most e, ascending."""
    need_grid(points, steps)
    need_ratio_from_zero(e, "e")
    rows = rows_within(points, told_steps(steps), told(e, "e"), MOST_ROWS + 1)
    if len(rows) > MOST_ROWS:
        raise TooMany("rows", MOST_ROWS)
    return tuple(rows)


def best_on_grid(points, steps):
    """The least error on the grid and all rows that have it, as OnGrid."""
    need_grid(points, steps)
    found = nearest(points, tuple(range(len(steps))))
    rounded = grid_poly(nearest_row(found.poly, steps), steps)
    error, rows = best_rows(points, told_steps(steps), error_of(points, rounded), MANY_ROWS)
    if len(rows) > MOST_ROWS:
        raise TooMany("rows", MOST_ROWS)
    return OnGrid(error, rows)


def ranges(points, steps, e):
    """A paper that all_on_grid tells all: a tuple of Ranges, each one followed by those of longer starts."""
    all_on_grid(points, steps, e)
    return tuple([Range(*row) for row in range_rows(points, told_steps(steps), told(e, "e"))])


def are_ranges(points, steps, e, answer):
    """Whether any value is what ranges tells."""
    need_grid(points, steps)
    need_ratio_from_zero(e, "e")
    if not isinstance(answer, tuple):
        return False
    wholes = told_steps(steps)
    table = power_table(points, len(steps))
    waiting = [()]
    for item in answer:
        if not waiting or not isinstance(item, Range) or not is_start(item.start, waiting[-1]):
            return False
        if not is_range(points, wholes, e, table, item):
            return False
        start = waiting.pop()
        if len(start) < len(steps) - 1:
            waiting.extend([(*start, whole) for whole in range(item.high, item.low - 1, -1)])
    return not waiting


def is_start(value, start):
    """Whether any value is just this tuple of integers."""
    return isinstance(value, tuple) and all([is_whole(item) for item in value]) and value == start


def is_range(points, steps, e, table, item):
    """Whether the ends of a Range with a right start are integers, and its ties show them."""
    if not is_whole(item.low) or not is_whole(item.high) or not 0 <= item.high - item.low + 1 <= MOST_RANGE:
        return False
    step = steps[len(item.start)]
    numbers = rest_numbers(points, steps, table, item.start)
    below = tie_bound(points, table, numbers, len(item.start), -1, e, item.below)
    above = tie_bound(points, table, numbers, len(item.start), 1, e, item.above)
    if below is None or above is None:
        return False
    return lower(below, times(step, 1 - item.low)) and lower(above, times(step, item.high + 1))


def tie_bound(points, table, numbers, power, sign, e, tie):
    """The bound of a tie for a sign at a power and 0 at all higher ones; None for any value that is none."""
    if not are_shares(tie, len(numbers)):
        return None
    for other in range(power, len(table[0])):
        total = (0, 1)
        for index, part in tie:
            total = plus(total, times(part, table[index][other]))
        if total != ((sign if other == power else 0), 1):
            return None
    bound = (0, 1)
    for index, part in tie:
        size = share(size_of(told(part, "share")), points.weights[index])
        bound = plus(bound, plus(times(part, numbers[index]), times(e, size)))
    return bound


def fewest_bits(points, degree, e):
    """The least b such that steps of 1 / 2 ** b leave a polynomial with an error of at most e; None if none do."""
    if not is_whole_within(degree, 0, MOST_DEGREE):
        raise BadNumber("degree", degree)
    if len(points.points) < degree + 2:
        raise Fewer("points")
    need_ratio_from_zero(e, "e")
    found = nearest(points, tuple(range(degree + 1)))
    if lower(e, found.error):
        return None
    if not lower(found.error, e):
        return bits_of(found.poly)
    bits = 0
    while not rows_within(points, [(1, 1 << bits)] * (degree + 1), told(e, "e"), 1):
        bits = bits + 1
    return bits


def bits_of(poly):
    """The least b such that all numbers of a polynomial are multiples of 1 / 2 ** b; None if there is none."""
    most = max([bottom for _, bottom in poly.numbers] + [1])
    if any([most % bottom != 0 for _, bottom in poly.numbers]) or most & (most - 1) != 0:
        return None
    return most.bit_length() - 1
