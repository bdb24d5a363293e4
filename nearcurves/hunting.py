"""The hunt for the nearest polynomial on an interval.

The nearest polynomial on some points has a bar, and an error that is too great at points between them. These are put
to the points, again and again, until its greatest error is as small as the bar allows, but for less than a gap. All
that is told on the way is near to what it stands for, but for the bars: those are exact.

An aim is a row (top, bottom, base, low, high): top / bottom stands for a function on an interval, and the error of a
polynomial p is the size of (p * bottom - top) / base. Bottom and base are above 0.
"""

from nearcurves.fits import nearest_fit, power_row_of, shortened
from nearcurves.leasts import least_multiple
from nearcurves.linear import System
from nearcurves.polys import Poly, number_of
from nearcurves.ratios import floor_of, lower, lowest, minus, nearest_whole, plus, share, times
from nearcurves.signs import zero_rows

# So many bits more than the gap has are kept on the way.
SPARE_BITS = 16
# How much less error is asked for away from a point: a power of 1/2, times as many squares of the distance.
EASES = ((1, 1), (4, 1), (8, 1), (1, 2), (4, 2), (8, 2), (1, 4), (4, 4), (8, 4))
EASE_BITS = 48


def plain_aims(parts):
    """The aims of errors themselves."""
    return [(top, bottom, bottom, low, high) for top, bottom, low, high in parts]


def share_aims(parts):
    """The aims of shares of a function above 0."""
    return [(top, bottom, top, low, high) for top, bottom, low, high in parts]


def aim_at(aims, point):
    """An aim whose interval has a point."""
    for aim in aims[:-1]:
        if not lower(aim[4], point):
            return aim
    return aims[-1]


def value_of(aim, point):
    """What an aim stands for at a point."""
    return share(aim[0].at(point), aim[1].at(point))


def load_of(aim, point):
    """What 1 / weight is at a point: base / bottom."""
    return share(aim[2].at(point), aim[1].at(point))


def error_in(aims, poly, point):
    """The error of a polynomial at a point."""
    aim = aim_at(aims, point)
    top, bottom = times(minus(poly.at(point), value_of(aim, point)), share(1, load_of(aim, point)))
    return abs(top), bottom


def size_bits(ratio):
    """About the logarithm of a ratio's size to the base 2; 0 for 0."""
    return abs(ratio[0]).bit_length() - ratio[1].bit_length() if ratio[0] != 0 else 0


def value_bits(aims):
    """The bits of an integer that is above the sizes of all that aims stand for, divided by the base."""
    starts = [(top, base, low, high) for top, _, base, low, high in aims]
    starts.extend([(-top, base, low, high) for top, _, base, low, high in aims])
    return (abs(least_multiple(starts, 0)[0]) + 1).bit_length()


def fineness(low, high, bits):
    """The bits of a grid that is finer than an interval is wide by more bits than these."""
    return max(0, bits + SPARE_BITS - size_bits(minus(high, low)))


class Hunt:
    """The points of a hunt; and, behind each round, a polynomial, the greatest error seen, and the rows of a bar."""

    def __init__(self, aims, powers, bits):
        self.aims = aims
        self.powers = powers
        self.bits = bits + value_bits(aims)
        self.low = aims[0][3]
        self.high = aims[-1][4]
        self.fine = fineness(self.low, self.high, self.bits)
        self.places = {}
        self.poly = None
        self.seen = None
        self.rows = ()
        self.error = None
        self.known = []
        self.ease = len(EASES)
        self.eased = []
        self.sketches = []
        self.put_first_points()

    def put(self, point):
        """Puts the place of the grid next to a point to the points; tells whether it is a new one."""
        place = self.place_of(point)
        known = place in self.places
        self.places[place] = True
        # Where all powers are even, or all odd, one bar has but a point and its negative.
        if len({power % 2: True for power in self.powers}) == 1 and self.place_of((-place, 1 << self.fine)) == -place:
            self.places[-place] = True
        return not known

    def place_of(self, point):
        """The place of the grid next to a point, within the interval."""
        place = nearest_whole(times(point, 1 << self.fine))
        least = -floor_of(times(self.low, -1 << self.fine))
        return min(max(place, least), floor_of(times(self.high, 1 << self.fine)))

    def put_first_points(self):
        """Puts in points, closer to one another near the ends, and 0, where powers without 0 tell nothing."""
        many = 2 * len(self.powers) + 4
        width = minus(self.high, self.low)
        for k in range(many + 1):
            part = lowest(k * k * (3 * many - 2 * k), many * many * many)
            self.put(plus(self.low, times(width, part)))
        if not lower(0, self.low) and not lower(self.high, 0):
            self.put((0, 1))

    def grid_points(self):
        """The points, ascending."""
        return [lowest(place, 1 << self.fine) for place in sorted(self.places)]

    def put_or_refine(self, point):
        """Puts in a point at which the error is too great; makes the grid finer if it has it already."""
        if not self.put(point):
            self.refine()

    def refine(self):
        """Makes the grid finer."""
        self.fine = self.fine + SPARE_BITS
        self.bits = self.bits + SPARE_BITS
        self.places = {place << SPARE_BITS: True for place in self.places}
        self.sketches = []

    def go_on(self):
        """One round: the nearest polynomial on the points, its bar, its greatest errors, and the points of these."""
        points = self.grid_points()
        numbers, weights = self.numbers_at(points)
        poly = self.eased_poly(points, numbers, weights)
        if poly is None:
            poly = self.nearest_poly(points, numbers, weights)
        self.poly = rounded(poly, self.powers, self.coefficient_bits(weights))
        found = self.look_around()
        if len(self.rows) <= len(self.powers) and self.put_neighbors():
            found = True
        if not found:
            self.refine()

    def nearest_poly(self, points, numbers, weights):
        """The nearest polynomial on the points; takes its error and the rows of its bar."""
        known = columns_of(self.known, points, self.powers)
        poly, self.error, bar, chosen = nearest_fit(points, numbers, weights, self.powers, known)
        self.known = points_of(chosen, points)
        rows = bar_rows(points, bar) if bar else any_rows(points, self.powers)
        if bar and len(rows) <= len(self.powers) and rows != self.rows:
            self.ease = 0
            self.eased = []
        self.rows = rows
        return poly

    def eased_poly(self, points, numbers, weights):
        """One of many nearest polynomials, with less than the least error away from the points of the bar; or None.

        Where a bar has few points, the nearest polynomial that linear equations lead to has the least error at as many
        points as can be, and between them a greater one, again and again. This one has not.
        """
        while self.ease < len(EASES):
            room = [times(weight, self.room_at(point)) for point, weight in zip(points, weights)]
            known = columns_of(self.eased, points, self.powers)
            poly, error, _, chosen = nearest_fit(points, numbers, room, self.powers, known)
            if not lower(plus(self.error, (1, 16 << self.bits)), error):
                self.eased = points_of(chosen, points)
                return poly
            self.ease = self.ease + 1
            self.eased = []
        return None

    def room_at(self, point):
        """What the weight of a point is multiplied by for a nearest polynomial with less error there."""
        width = minus(self.high, self.low)
        least = 1 << EASE_BITS
        for other, _ in self.rows:
            top, bottom = share(minus(point, other), width)
            least = min(least, (abs(top) << EASE_BITS) // bottom)
        bits, squares = EASES[self.ease]
        square = (least * least) >> EASE_BITS
        size = 1 << EASE_BITS
        for _ in range(squares):
            size = (size * square) >> EASE_BITS
        whole = 1 << (EASE_BITS + bits)
        return lowest(whole, whole - size)

    def look_around(self):
        """Sees the greatest error; tells whether new points were put in, at which the error is too great."""
        found = False
        self.seen = (0, 1)
        if not self.sketches:
            self.sketches = [self.sketch_of(aim) for aim in self.aims]
        for sketch in self.sketches:
            for point in self.extremes(sketch):
                size = error_in(self.aims, self.poly, point)
                if lower(self.seen, size):
                    self.seen = size
                if lower(self.error, size) and self.put(point):
                    found = True
        return found

    def put_neighbors(self):
        """Puts in points close to those of a bar with few points; tells whether there is a new one.

        What the slope is at such a point, others that are farther away tell only slowly.
        """
        found = False
        for bits in (self.bits // 4 + 2, self.bits // 2 + 2):
            step = times(minus(self.high, self.low), (1, 1 << bits))
            for point, _ in self.rows:
                for place in (minus(point, step), plus(point, step)):
                    if self.put(place):
                        found = True
        return found

    def numbers_at(self, points):
        """Short ratios next to the numbers at some points, and the weights there."""
        numbers = []
        weights = []
        for point in points:
            aim = aim_at(self.aims, point)
            number = value_of(aim, point)
            bits = self.bits + SPARE_BITS + max(0, size_bits(number))
            numbers.append(shortened(number, bits))
            top, bottom = shortened(load_of(aim, point), bits)
            weights.append((bottom, top))
        return numbers, weights

    def coefficient_bits(self, weights):
        """The bits that a polynomial's numbers need for an error far below the gap."""
        size = max(size_bits(self.low), size_bits(self.high), 0) + 1
        most = max([size_bits(weight) for weight in weights] + [0])
        return self.bits + 8 + size * self.powers[-1] + most

    def sketch_of(self, aim):
        """A row (start, step, top, bottom, base): the aim, but for little, with start + step * t in the place of x.

        From t = 0 to 1 it has the places of the grid in the aim's interval; the step is 0 if this is but one.
        """
        low, high = self.place_of(aim[3]), self.place_of(aim[4])
        start, step = lowest(low, 1 << self.fine), lowest(high - low, 1 << self.fine)
        most = max([poly.degree() for poly in aim[:3]])
        bits = 2 * (self.bits + most) + 4 * SPARE_BITS
        return [start, step] + [short_poly(poly.moved(start, step), bits) for poly in aim[:3]]

    def extremes(self, sketch):
        """Points next to those where the error of a sketch is greatest: its ends, and zeros of its slope."""
        start, step, top, bottom, base = sketch
        if step[0] == 0:
            return [start]
        difference = self.poly.moved(start, step) * bottom - top
        slope = difference.slope() * base - difference * base.slope()
        spots = [(0, 1), (1, 1)]
        if slope.degree() > 0:
            spots.extend([one for one, _, _ in zero_rows(slope, 0, 1, self.bits // 2 + SPARE_BITS)])
        places = {self.place_of(plus(start, times(step, spot))): True for spot in spots}
        return [lowest(place, 1 << self.fine) for place in sorted(places)]


def short_poly(poly, bits):
    """A Poly next to another one, with numbers that have so many bits at most, and a power of 2 below."""
    most = max([size_bits(number) for number in poly.numbers if number[0] != 0], default=0)
    shift = max(0, bits - most)
    return Poly([(nearest_whole(times(number, 1 << shift)), 1 << shift) for number in poly.numbers])


def points_of(chosen, points):
    """The points of the columns of nearest_fit, and which of the two of a point each column is."""
    return [(points[index // 2], index % 2) for index in chosen if index is not None and index < 2 * len(points)]


def columns_of(known, points, powers):
    """The columns of nearest_fit for what points_of told, perhaps of fewer points."""
    places = {point: index for index, point in enumerate(points)}
    found = [2 * places[point] + parity for point, parity in known]
    # The last column is for what is left to 1.
    return found + [2 * len(points)] if 0 < len(found) <= len(powers) else found


def rounded(poly, powers, bits):
    """The Poly with its numbers rounded to multiples of 2 ** -bits."""
    numbers = [0] * (powers[-1] + 1)
    for power in powers:
        numbers[power] = (nearest_whole(times(number_of(poly.numbers, power), 1 << bits)), 1 << bits)
    return Poly(numbers)


def bar_rows(points, shares):
    """The rows (point, share) for pairs (index, share), with shares whose sizes add up to 1."""
    total = (0, 1)
    for _, (top, bottom) in shares:
        total = plus(total, (abs(top), bottom))
    return tuple([(points[index], share(part, total)) for index, part in shares])


def any_rows(points, powers):
    """The rows of some bar for powers on points that are more than the powers."""
    columns = [power_row_of(point, powers) for point in points]
    table = System([row for row, _ in columns], [0] * len(powers))
    for index, (row, factor) in enumerate(columns):
        weights = table.weighed(row)
        free = [place for place, chosen in enumerate(table.chosen) if chosen is None and weights[place] != 0]
        if free:
            table.exchange(free[0], index, weights)
        else:
            return bar_rows(points, sum_shares(table, weights, columns, index))
    return ()


def sum_shares(table, weights, columns, index):
    """Pairs (index, share), ascending, such that a column and those that it is the sum of multiples of make up 0."""
    found = {index: columns[index][1] * table.below}
    for chosen, weight in zip(table.chosen, weights):
        if chosen is not None and weight != 0:
            found[chosen] = -weight * columns[chosen][1]
    return [(place, (found[place], 1)) for place in sorted(found)]
