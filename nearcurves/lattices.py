"""Rows of integers whose polynomials, on a grid, are near to numbers at points: found power by power.

With each power that is given an integer, the next one has a range, which linear equations tell: those of the ties for
its number. All is multiplied by integers, point by point, so that what the numbers are less the values of a row is an
integer: it is to be at most the room of the point, an error times its load.
"""

from math import gcd, lcm

from nearcurves.fits import raised
from nearcurves.linear import System, choose, greatest_prices
from nearcurves.ratios import lower, lowest, times


class Lattice:
    """Points with numbers and weights, and steps, for powers in an order."""

    def __init__(self, points, steps, order):
        self.order = order
        self.numbers = []
        self.heights = []
        self.scales = []
        self.loads = []
        bottom = 1
        for _, below in steps:
            bottom = lcm(bottom, below)
        wholes = [top * (bottom // below) for top, below in steps]
        for point, number, weight in zip(points.points, points.numbers, points.weights):
            self.put(point, number, weight, wholes, bottom)
        self.levels = [Level(self, place) for place in range(len(order))]

    def put(self, point, number, weight, wholes, bottom):
        """Puts in a point: its number, and the values of all steps times their powers, times one scale."""
        last = len(wholes) - 1
        scale = number[1] * raised(point[1], last) * bottom
        whole = number[0] * raised(point[1], last) * bottom
        terms = [raised(point[0], power) * raised(point[1], last - power) for power in range(last + 1)]
        heights = [item * term * number[1] for item, term in zip(wholes, terms)]
        shared = whole
        for height in heights:
            shared = gcd(shared, height)
        shared = max(1, shared)
        self.numbers.append(whole // shared)
        self.heights.append([heights[power] // shared for power in self.order])
        self.scales.append(lowest(scale, shared))
        self.loads.append(lowest(scale * weight[1], shared * weight[0]))

    def rooms_for(self, e):
        """The rooms of all points for an error, as integers: no other differences are at most the error."""
        return [e[0] * top // (e[1] * bottom) for top, bottom in self.loads]

    def less(self, numbers, place, whole):
        """What is left of numbers if a power is given an integer."""
        return [number - whole * heights[place] for number, heights in zip(numbers, self.heights)]

    def error_left(self, numbers):
        """The error where these numbers are left."""
        greatest = (0, 1)
        for number, (top, bottom) in zip(numbers, self.loads):
            error = (abs(number) * bottom, top)
            if lower(greatest, error):
                greatest = error
        return lowest(greatest[0], greatest[1])

    def told(self, row):
        """A row in the order of the powers, for one in the order of the lattice."""
        found = [0] * len(row)
        for power, whole in zip(self.order, row):
            found[power] = whole
        return tuple(found)


class Level:
    """The ranges of one power, behind those that are given integers ahead of it."""

    def __init__(self, lattice, place):
        self.heights = [heights[place:] for heights in lattice.heights]
        self.many = len(self.heights[0])
        # What is measured in gains alone need not be exact.
        self.scales = [max(1, top // bottom) for top, bottom in lattice.loads for _ in range(2)]
        self.above = None
        self.below = None

    def ends_for(self, numbers, rooms, divisor):
        """A pair (least, greatest) of ratios that the power's number lies between; None if there is none.

        The rooms are told times the divisor.
        """
        if self.many == 1:
            return last_ends([heights[0] for heights in self.heights], numbers, rooms, divisor)
        if self.above is None:
            self.above = self.system(1)
            self.below = self.system(-1)
        costs = []
        for number, room in zip(numbers, rooms):
            costs.extend([-divisor * number - room, divisor * number - room])
        high = self.bound(self.above, costs, divisor)
        if high is None:
            return None
        low = self.bound(self.below, costs, divisor)
        return (-low[0], low[1]), high

    def system(self, sign):
        """A System for ties, with columns that are far from one another, and no amounts below 0."""
        columns = []
        for heights in self.heights:
            columns.extend([heights, [-height for height in heights]])
        system = System(columns, [sign] + [0] * (self.many - 1), [(heights, 0) for heights in self.heights])
        step = max(1, len(self.heights) // self.many)
        places = list(range(0, len(self.heights), step)) + list(range(len(self.heights)))
        choose(system, [2 * place for place in places])
        for row, amount in enumerate(system.weighed(system.right)):
            if amount < 0:
                system.turn(row, system.chosen[row] + 1)
        return system

    def bound(self, system, costs, divisor):
        """The least bound of a tie; None if there is none."""
        prices = greatest_prices(system, costs, self.scales)
        if prices is None:
            return None
        total = -sum([price * item for price, item in zip(prices, system.right)])
        return total, system.below * divisor


def amounts_of(system):
    """The pairs (index, amount) of points with the amounts in the columns that were chosen last."""
    found = {}
    for index, amount in zip(system.chosen, system.weighed(system.right)):
        if amount != 0:
            found[index // 2] = lowest(amount if index % 2 == 0 else -amount, system.below)
    return [(index, found[index]) for index in sorted(found)]


def last_ends(heights, numbers, rooms, divisor):
    """The least and the greatest number for the last power: each point with a height other than 0 has its own ends."""
    low, high = None, None
    for height, number, room in zip(heights, numbers, rooms):
        middle = divisor * number
        if height == 0:
            if abs(middle) > room:
                return None
        else:
            middle = middle if height > 0 else -middle
            size = divisor * abs(height)
            if low is None or lower(low, (middle - room, size)):
                low = (middle - room, size)
            if high is None or lower((middle + room, size), high):
                high = (middle + room, size)
    return low, high


def whole_ends(ends):
    """The least and the greatest integer between two ratios; none lie between if the first is above the other."""
    low, high = ends
    return -(-low[0] // low[1]), high[0] // high[1]


def from_middle(low, high):
    """All integers from low to high, those in the middle first."""
    middle = (low + high) // 2
    return sorted(range(low, high + 1), key=lambda whole: 2 * abs(whole - middle) + (1 if whole < middle else 0))


class Search:
    """A search for rows: all with an error of at most e, up to a limit; or, from e down, all with the least error."""

    def __init__(self, lattice, e, limit, falls):
        self.lattice = lattice
        self.limit = limit
        self.falls = falls
        self.e = e
        self.rooms = lattice.rooms_for(e)
        self.rows = []
        self.look([], lattice.numbers)

    def look(self, row, numbers):
        """Looks at all rows that begin so; numbers are what is left."""
        place = len(row)
        ends = self.lattice.levels[place].ends_for(numbers, self.rooms, 1)
        if ends is None:
            return
        low, high = whole_ends(ends)
        for whole in from_middle(low, high):
            if len(self.rows) >= self.limit:
                return
            left = self.lattice.less(numbers, place, whole)
            if place + 1 < len(self.lattice.order):
                self.look(row + [whole], left)
            else:
                self.take(row + [whole], left)

    def take(self, row, numbers):
        """Takes a row whose polynomial leaves these numbers."""
        if self.falls:
            error = self.lattice.error_left(numbers)
            if lower(self.e, error):
                return
            if lower(error, self.e):
                self.e = error
                self.rooms = self.lattice.rooms_for(error)
                self.rows = []
        self.rows.append(self.lattice.told(row))


def rows_within(points, steps, e, limit):
    """Rows whose polynomials have an error of at most e, as a list, ascending; so many at most."""
    # High powers first: what is left for them does not depend on where the points lie.
    order = list(range(len(steps) - 1, -1, -1))
    return sorted(Search(Lattice(points, steps, order), e, limit, False).rows)


def best_rows(points, steps, e, limit):
    """The pair (error, rows) of the least error, which is at most e, and the rows that have it."""
    order = list(range(len(steps) - 1, -1, -1))
    search = Search(Lattice(points, steps, order), e, limit, True)
    return search.e, sorted(search.rows)


def tie_of(lattice, system, step):
    """The shares of the tie for a power with a step that a System told last, for the points themselves."""
    return tuple([(index, times(part, times(lattice.scales[index], step))) for index, part in amounts_of(system)])
