"""Dues: the numbers that a program without any error would tell at inputs."""

from nearcurves.functions import Mixed, is_endless, sums, value
from nearcurves.polys import over_one_bottom
from nearcurves.ratios import lowest, minus, plus, times, told
from nearcurves.targets import tail_of, terms_within
from nearcurves.wholecorners import value_at

# Dues of rows that do not end are known up to 2 ** -64: closer than any gap, and than judges are asked to tell.
DUE_BITS = 64


class Dues:
    """The dues of all inputs of a width, ratios in any terms, each at most the slack from the right one."""

    def __init__(self, function, frame, width):
        many = 1 << width
        self.endless = is_endless(function)
        if self.endless:
            low, high = frame.point(0), frame.point(many - 1)
            terms = terms_within(function, low, high, (1, 1 << (DUE_BITS + frame.bits)))
            row, bottom = over_one_bottom(sums(function, terms).moved(frame.low, frame.step).numbers)
            self.slack = times(tail_of(function, low, high, terms), 1 << frame.bits)
            self.ratios = [(value_at(row, x, 1) << frame.bits, bottom) for x in range(many)]
        else:
            exact = sums(function, 0) if isinstance(function, Mixed) else function
            self.slack = (0, 1)
            self.ratios = [times(value(exact, frame.point(x), 0)[0], 1 << frame.bits) for x in range(many)]

    def distance(self, x, number):
        """How far a ratio, in any terms, is from the due of an input, but for the slack."""
        top, bottom = self.ratios[x]
        other_top, other_bottom = number
        return lowest(abs(top * other_bottom - other_top * bottom), bottom * other_bottom)

    def ends_near(self, bound):
        """The pair (floors, tops) of lists: the least and the greatest integer at most a bound from each due.

        Dues that may be a little off are taken as they are: so what is told is right for a bound a little off, too.
        """
        return self.ends_within(told(bound, "bound"))

    def judged_ends(self, bound, bits):
        """The ends for a bound and the gap more, and for the gap less; all just as near counts as within."""
        gap = (1, 1 << bits) if self.endless else (0, 1)
        found = []
        for room in (plus(bound, gap), minus(bound, gap)):
            # No integer is within a bound below 0.
            found.append(self.ends_within(room if room[0] < 0 else plus(room, self.slack)))
        return found

    def ends_within(self, bound):
        """The ends for a bound against the dues as they are here."""
        floors, tops = [], []
        for top, bottom in self.ratios:
            middle, size, below = top * bound[1], bound[0] * bottom, bottom * bound[1]
            floors.append(-((size - middle) // below))
            tops.append((middle + size) // below)
        return floors, tops
