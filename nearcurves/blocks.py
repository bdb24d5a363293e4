"""Tables and lines on blocks: rows of inputs with the same high bits.

Ends are a pair (floors, tops) of lists: the least and the greatest integer that is within a bound at each input. What
judges ask here may be any value, but a size, a shift and ends.
"""

from nearcurves.checks import is_whole_within
from nearcurves.linefits import bars_greater, bars_lesser, line_between, shows_no_line, straight_bar
from nearcurves.ratios import is_whole


def block_of(ends, size, block):
    """The ends of the inputs of a block."""
    floors, tops = ends
    return floors[block * size:(block + 1) * size], tops[block * size:(block + 1) * size]


def many_blocks(ends, size):
    """How many blocks of so many inputs there are."""
    return len(ends[0]) // size


def table_entries(ends, size):
    """A pair (entries, bar), one of which is None: an integer for each block, or a row (block, one, other)."""
    entries = []
    for block in range(many_blocks(ends, size)):
        floors, tops = block_of(ends, size, block)
        least, most = max(floors), min(tops)
        if least > most:
            one, other = sorted([floors.index(least), tops.index(most)])
            return None, (block, block * size + one, block * size + other)
        entries.append(least)
    return entries, None


def shifted_ends(ends, shift):
    """The ends of the numbers that, shifted to the right, are from floors to tops."""
    return [floor << shift for floor in ends[0]], [((top + 1) << shift) - 1 for top in ends[1]]


def line_entries(ends, size, shift):
    """A pair (entries, bar), one of which is None: a line for each block, or a row (block, slope, lesser, greater)."""
    entries = []
    numbers = shifted_ends(ends, shift)
    for block in range(many_blocks(ends, size)):
        lows, highs = block_of(numbers, size, block)
        line, bar = line_between(lows, highs)
        if line is None:
            slope, lesser, greater = bar
            return None, (block, slope, moved_places(lesser, block * size), moved_places(greater, block * size))
        entries.append(line)
    return entries, None


def moved_places(places, start):
    """Places of a block as inputs."""
    return tuple([start + place for place in places])


def fewest_high(find, width):
    """A row (high, entries, bar) with the fewest high bits that will do, the bar being that for one less.

    find tells entries and bar for blocks of a size; with blocks of one input there are entries.
    """
    high, ahead = 0, None
    entries, bar = find(1 << width)
    while bar is not None:
        high, ahead = high + 1, bar
        entries, bar = find(1 << (width - high))
    return high, entries, ahead


def least_shifted(ends, size, most):
    """A row (shift, entries, bar) with the least shift that will do, up to the most; None if there is none."""
    entries, bar = line_entries(ends, size, most)
    if bar is not None:
        return None
    least, ahead = -1, None
    while most - least > 1:
        middle = (least + most) // 2
        found, bar = line_entries(ends, size, middle)
        if bar is None:
            most, entries = middle, found
        else:
            least, ahead = middle, bar
    return most, entries, ahead


def unlined_block(ends, size):
    """The pair (block, inputs) of a block without any straight line, and what shows it; None if there is none."""
    for block in range(many_blocks(ends, size)):
        floors, tops = block_of(ends, size, block)
        places = straight_bar(floors, tops)
        if places is not None:
            return block, moved_places(places, block * size)
    return None


def are_entries(ends, size, entries, is_entry):
    """Whether a value is a tuple with an entry for each block; is_entry tells whether one will do for its ends."""
    if not isinstance(entries, tuple) or len(entries) != many_blocks(ends, size):
        return False
    for block, entry in enumerate(entries):
        floors, tops = block_of(ends, size, block)
        if not is_entry(entry, floors, tops):
            return False
    return True


def is_number(entry, floors, tops):
    """Whether a value is an integer that will do for all inputs of a block."""
    return is_whole(entry) and max(floors) <= entry <= min(tops)


def is_line(entry, lows, highs):
    """Whether a value is a line that will do for all inputs of a block."""
    if not isinstance(entry, tuple) or len(entry) != 2 or not all([is_whole(item) for item in entry]):
        return False
    start, slope = entry
    return all([low <= start + slope * rest <= high for rest, (low, high) in enumerate(zip(lows, highs))])


def places_in(ends, size, block, inputs):
    """The places in a block of a tuple of inputs, ascending or equal, as a tuple; None for any other values."""
    if not is_whole_within(block, 0, many_blocks(ends, size) - 1) or not isinstance(inputs, tuple):
        return None
    start = block * size
    if not all([is_whole_within(x, start, start + size - 1) for x in inputs]):
        return None
    if not all([one <= other for one, other in zip(inputs, inputs[1:])]):
        return None
    return tuple([x - start for x in inputs])


def bars_number(ends, size, block, inputs):
    """Whether two inputs of a block bar all integers for it."""
    places = places_in(ends, size, block, inputs)
    if places is None or len(places) != 2:
        return False
    floors, tops = block_of(ends, size, block)
    return max([floors[place] for place in places]) > min([tops[place] for place in places])


def bars_lines(ends, size, shift, bar):
    """Whether a row (block, slope, lesser, greater) of any values bars all lines with a shift for a block."""
    block, slope, lesser, greater = bar
    numbers = shifted_ends(ends, shift)
    pairs = (places_in(numbers, size, block, lesser), places_in(numbers, size, block, greater))
    if not is_whole(slope) or not all([pair is not None and len(pair) == 2 for pair in pairs]):
        return False
    lows, highs = block_of(numbers, size, block)
    one, other = pairs
    if one == other and one[0] == one[1]:
        return lows[one[0]] > highs[one[0]]
    if one[0] == one[1] or other[0] == other[1]:
        return False
    above = slope + 1
    return bars_lesser(lows, highs, *one, slope) and bars_greater(lows, highs, *other, above)


def bars_straight(ends, size, block, inputs):
    """Whether one or three inputs of a block show that there is no straight line for it."""
    places = places_in(ends, size, block, inputs)
    if places is None or len(places) not in (1, 3) or len(places) != len(set(places)):
        return False
    floors, tops = block_of(ends, size, block)
    return shows_no_line(floors, tops, places)
