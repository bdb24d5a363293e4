"""What polynomials and quotients are at integers, class by class: greatest and least values, and first signs.

Inputs of a class are told by their places: x is the rest of the class plus the place times 2 ** bits.
"""

from nearcurves.shapes import difference
from nearcurves.turning import slope_of_row, trimmed, turns
from nearcurves.wholecorners import value_at
from nearcurves.wholerows import primitive_row, product_row

# Up to so many inputs, all are looked at: this is no longer than to look for places where polynomials turn.
FEW = 1024


class Peaks:
    """The greatest and the least value seen, as rows (top, bottom, x), with the least inputs that have them."""

    def __init__(self):
        self.most = None
        self.least = None

    def look(self, top, bottom, x):
        """Looks at the value top / bottom of an input, bottom above 0."""
        if self.most is None or is_before((top, bottom, x), self.most):
            self.most = (top, bottom, x)
        if self.least is None or is_before((-top, bottom, x), (-self.least[0], *self.least[1:])):
            self.least = (top, bottom, x)

    def farthest(self):
        """The value that is farthest from 0, without its sign; of two that are so, that of the lesser input."""
        sizes = [(abs(top), bottom, x) for top, bottom, x in (self.most, self.least)]
        return sizes[0] if is_before(sizes[0], sizes[1]) else sizes[1]


def is_before(one, other):
    """Whether a value is greater than another one, or as great for a lesser input."""
    left, right = one[0] * other[1], other[0] * one[1]
    return left > right or (left == right and one[2] < other[2])


class Turns:
    """Where rows turn, up to a most input, or everywhere if this is None; slopes of many classes are the same."""

    def __init__(self, most):
        self.most = most
        self.known = {}

    def spots(self, slope):
        """Integers k such that each zero of a slope at which its sign changes lies from k to k + 1."""
        row = trimmed(slope)
        if len(row) < 2:
            return []
        key = tuple(primitive_row(row))
        if key not in self.known:
            self.known[key] = turns(key, self.most)
        return self.known[key]

    def places_for(self, slope, rest, bits, last):
        """The first place of a class, those next to zeros of a slope, and the last, unless it is None; ascending."""
        found = {0: True}
        if last is not None:
            found[last] = True
        for spot in self.spots(slope):
            place = (spot - rest) >> bits
            for near in (place, place + 1):
                if near >= 0 and (last is None or near <= last):
                    found[near] = True
        return sorted(found)


def peaks_of(quotients, bits, many):
    """The Peaks of quotients (top, bottom) of rows in x, one for each class of so many bits, for x below many."""
    peaks = Peaks()
    known = Turns(many)
    for rest, (top, bottom) in enumerate(quotients):
        last = (many - 1 - rest) >> bits
        if last >= 0:
            for place in places_of(top, bottom, rest, bits, last, known):
                x = rest + (place << bits)
                peaks.look(value_at(top, x, 1), value_at(bottom, x, 1), x)
    return peaks


def places_of(top, bottom, rest, bits, last, known):
    """The places of a class, ascending, among which are all that may be first with the greatest or the least value.

    Fact: but for the ends, these are next to a zero of the slope.
    """
    if last << bits <= FEW:
        return list(range(last + 1))
    slope = slope_of_row(top)
    if len(bottom) > 1:
        slope = slope_of_quotient(top, bottom)
    return known.places_for(slope, rest, bits, last)


def slope_of_quotient(top, bottom):
    """The row of top' * bottom - top * bottom'."""
    one = product_row(slope_of_row(top) or [0], bottom)
    other = product_row(top or [0], slope_of_row(bottom) or [0])
    size = max(len(one), len(other))
    one = one + [0] * (size - len(one))
    other = other + [0] * (size - len(other))
    return [left - right for left, right in zip(one, other)]


def first_unlike(one, other, many):
    """The least input at which two Classes tell unlike values, below many unless this is None; None if none is."""
    bits = max(one.bits, other.bits)
    found = []
    for rest in range(1 << bits):
        left, right = one.row_of(rest), other.row_of(rest)
        if left != right:
            row = difference(left, right)
            # It has no more zeros than its degree.
            places = [rest + (place << bits) for place in range(len(row))]
            found.append([x for x in places if value_at(row, x, 1) != 0][0])
    least = min(found, default=None)
    return least if least is None or many is None or least < many else None


def first_negative(rows, bits, most):
    """The least input up to the most, or of all if this is None, at which the row of its class is below 0; or None."""
    known = Turns(most)
    best = most
    found = None
    for rest, row in enumerate(rows):
        if best is None or rest <= best:
            last = None if best is None else (best - rest) >> bits
            place = first_place(trimmed(row), rest, bits, last, known)
            if place is not None:
                found = rest + (place << bits)
                best = found - 1
    return found


def first_place(row, rest, bits, last, known):
    """The least place of a class, up to the last unless this is None, at which a row in x is below 0; or None."""
    ahead = 0
    for place in known.places_for(slope_of_row(row), rest, bits, last):
        if is_negative(row, rest, bits, place):
            return first_between(row, rest, bits, ahead, place)
        ahead = place
    if last is not None or not row or row[-1] >= 0:
        return None
    # Behind all places it turns no more, and falls.
    step = 1
    while not is_negative(row, rest, bits, ahead + step):
        step = 2 * step
    return first_between(row, rest, bits, ahead, ahead + step)


def is_negative(row, rest, bits, place):
    """Whether a row in x is below 0 at a place of a class."""
    return value_at(row, rest + (place << bits), 1) < 0


def first_between(row, rest, bits, low, high):
    """The least place at which a row is below 0: it is so at high, and turns nowhere between low and high."""
    if is_negative(row, rest, bits, low):
        return low
    while high - low > 1:
        middle = (low + high) // 2
        if is_negative(row, rest, bits, middle):
            high = middle
        else:
            low = middle
    return high
