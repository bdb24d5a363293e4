"""What polynomials and quotients are at integers, class by class: greatest and least values, and first signs.

Inputs of a class are told by their places: x is the rest of the class plus the place times 2 ** bits.
"""

from nearcurves.shapes import difference, plain_row, worth_at
from nearcurves.turning import slope_of_row, turns
from nearcurves.wholecorners import value_at
from nearcurves.wholerows import primitive_row, product_row, stripped

# Up to so many inputs, all are looked at: this is no longer than to look for places where polynomials turn.
FEW = 1024


class Peaks:
    """The greatest and the least value seen, as rows (top, bottom, x), with the least inputs that have them."""

    def __init__(self):
        self.most = None
        self.least = None

    def look(self, top, bottom, x):
        """Looks at the value top / bottom of an input, bottom above 0."""
        if self.most is None or is_before((top, bottom, x), self.most):
            self.most = (top, bottom, x)
        if self.least is None or is_before((-top, bottom, x), (-self.least[0], *self.least[1:])):
            self.least = (top, bottom, x)

    def farthest(self):
        """The value that is farthest from 0, without its sign; of two that are so, that of the lesser input."""
        sizes = [(abs(top), bottom, x) for top, bottom, x in (self.most, self.least)]
        return sizes[0] if is_before(sizes[0], sizes[1]) else sizes[1]


def is_before(one, other):
    """Whether a value is greater than another one, or as great for a lesser input."""
    left, right = one[0] * other[1], other[0] * one[1]
    return left > right or (left == right and one[2] < other[2])


class Against:
    """What numbers, divided by 2 ** bits, are told less of: a quotient of rows in x, the bottom above 0."""

    def __init__(self, tops, bottoms, bits):
        self.tops = tops
        self.bottoms = bottoms
        self.bits = bits
        self.square = product_row(bottoms, bottoms)
        one = product_row(slope_of_row(tops), bottoms)
        self.change = difference((one, 0), (product_row(tops, slope_of_row(bottoms)), 0))

    def worth(self, number, x):
        """The pair (top, bottom) of what is left of a number for an input."""
        below = value_at(self.bottoms, x, 1)
        return number * below - (value_at(self.tops, x, 1) << self.bits), below << self.bits

    def slope_row(self, pair):
        """A row with the signs of the slope of what is left of a polynomial, for the pair of its own slope."""
        row, shift = pair
        change = [number << (shift + self.bits) for number in self.change]
        return difference((product_row(row, self.square), 0), (change, 0))


def peaks_of(classes, against, many):
    """The Peaks of what Classes tell less a quotient, for x below many."""
    peaks = Peaks()
    known = {}
    for rest, pair in enumerate(classes.rows):
        last = (many - 1 - rest) >> classes.bits
        if last << classes.bits <= FEW:
            places = list(range(last + 1))
        else:
            # Fact: but for the ends, a greatest or a least value stands next to a zero of the slope.
            slope = plain_row(slope_of_row(pair[0]), pair[1])
            if slope not in known:
                known[slope] = turns(against.slope_row(slope), many)
            places = places_near(known[slope], rest, classes.bits, last)
        for place in places:
            x = rest + (place << classes.bits)
            top, bottom = against.worth(worth_at(pair, x), x)
            peaks.look(top, bottom, x)
    return peaks


def places_near(spots, rest, bits, last):
    """The first place of a class, those next to all x from k to k + 1 for some k, and the last, unless it is None."""
    found = {0: True}
    if last is not None:
        found[last] = True
    for spot in spots:
        place = (spot - rest) >> bits
        for near in (place, place + 1):
            if near >= 0 and (last is None or near <= last):
                found[near] = True
    return sorted(found)


def first_unlike(one, other, many):
    """The least input at which two Classes tell unlike values, below many unless this is None; None if none is."""
    bits = max(one.bits, other.bits)
    found = []
    for rest in range(1 << bits):
        left, right = one.row_of(rest), other.row_of(rest)
        if left != right:
            row = difference(left, right)
            # It has no more zeros than its degree.
            places = [rest + (place << bits) for place in range(len(row))]
            found.append([x for x in places if value_at(row, x, 1) != 0][0])
    least = min(found, default=None)
    return least if least is None or many is None or least < many else None


def first_negative(rows, bits, most):
    """The least input up to the most, or of all if this is None, at which the row of its class is below 0; or None."""
    known = {}
    best = most
    found = None
    for rest, row in enumerate(rows):
        if best is None or rest <= best:
            last = None if best is None else (best - rest) >> bits
            place = first_place(stripped(row), rest, bits, last, spots_of(slope_of_row(row), most, known))
            if place is not None:
                found = rest + (place << bits)
                best = found - 1
    return found


def spots_of(row, most, known):
    """What turns tells of a row; slopes of many classes are multiples of one another, and each is looked at once."""
    row = stripped(row)
    key = tuple(primitive_row(row)) if row else ()
    if key not in known:
        known[key] = turns(key, most)
    return known[key]


def first_place(row, rest, bits, last, spots):
    """The least place of a class, up to the last unless this is None, at which a row in x is below 0; or None."""
    ahead = 0
    for place in places_near(spots, rest, bits, last):
        if is_negative(row, rest, bits, place):
            return first_between(row, rest, bits, ahead, place)
        ahead = place
    if last is not None or not row or row[-1] >= 0:
        return None
    # Behind all places it turns no more, and falls.
    step = 1
    while not is_negative(row, rest, bits, ahead + step):
        step = 2 * step
    return first_between(row, rest, bits, ahead, ahead + step)


def is_negative(row, rest, bits, place):
    """Whether a row in x is below 0 at a place of a class."""
    return value_at(row, rest + (place << bits), 1) < 0


def first_between(row, rest, bits, low, high):
    """The least place at which a row is below 0: it is so at high, and turns nowhere between low and high."""
    if is_negative(row, rest, bits, low):
        return low
    while high - low > 1:
        middle = (low + high) // 2
        if is_negative(row, rest, bits, middle):
            high = middle
        else:
            low = middle
    return high
