"""What several modules ask of their arguments, and how objects keep what they are given."""

from nearcurves.errors import BadInterval, BadNumber
from nearcurves.ratios import is_ratio, is_whole, lower

MOST_BITS = 60


def held(value):
    """A value as objects keep it: a list as a tuple, all else just as it is."""
    return tuple(value) if isinstance(value, list) else value


def is_whole_within(value, least, most):
    """Whether any value is an integer from the least to the most."""
    return is_whole(value) and least <= value <= most


def is_whole_from(value, least):
    """Whether any value is an integer that is not below the least."""
    return is_whole(value) and value >= least


def is_judged_ratio(value):
    """Whether any value that is judged is a ratio: there no list stands for a tuple."""
    return is_ratio(value) and not isinstance(value, list)


def is_ascending(ratios):
    """Whether each of some ratios is above the one ahead of it."""
    return all([lower(one, other) for one, other in zip(ratios, ratios[1:])])


def need_interval(low, high):
    """BadInterval for two values that are not the ends of an interval."""
    if not (is_ratio(low) and is_ratio(high) and lower(low, high)):
        raise BadInterval(low, high)


def need_bits(bits):
    """BadNumber for what is no number of bits of a gap."""
    if not is_whole_within(bits, 0, MOST_BITS):
        raise BadNumber("bits", bits)


def need_ratio_from_zero(value, what):
    """BadNumber for what is no ratio from 0 on."""
    if not is_ratio(value) or lower(value, 0):
        raise BadNumber(what, value)
