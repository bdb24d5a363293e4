"""Lines that are from low integers to high ones at all places 0, 1, 2, .. of a block."""


def first_crossed(lows, highs):
    """The first place at which the low integer is above the high one; None if there is none."""
    for place, (low, high) in enumerate(zip(lows, highs)):
        if low > high:
            return place
    return None


def greatest_place(values):
    """The first place of the greatest one of some integers."""
    return values.index(max(values))


def line_between(lows, highs):
    """A pair (line, bar) of which one is None.

    The line is a pair (a, b) of integers with a + b * place from the low to the high integer at all places. The bar is
    a row (slope, lesser, greater) of an integer and two pairs of places, that show that no such line has this slope or
    a lesser one, nor a greater one.
    """
    crossed = first_crossed(lows, highs)
    if crossed is not None:
        return None, (0, (crossed, crossed), (crossed, crossed))
    last = len(lows) - 1
    if last == 0:
        return (lows[0], 0), None
    lesser = greater = (0, last)
    least = -((highs[0] - lows[last]) // last)
    most = (highs[last] - lows[0]) // last
    while least <= most:
        slope = (least + most) // 2
        starts = [low - slope * place for place, low in enumerate(lows)]
        ends = [slope * place - high for place, high in enumerate(highs)]
        up, down = greatest_place(starts), greatest_place(ends)
        if starts[up] <= -ends[down]:
            return (starts[up], slope), None
        # The two places that are farthest from having a line with this slope bar all on one side of it.
        if up > down:
            lesser = (down, up)
            least = -((highs[down] - lows[up]) // (up - down))
        else:
            greater = (up, down)
            most = (highs[down] - lows[up]) // (down - up)
    return None, (least - 1, lesser, greater)


def bars_lesser(lows, highs, one, other, slope):
    """Whether two places bar a slope and all lesser ones."""
    return lows[other] - highs[one] > slope * (other - one)


def bars_greater(lows, highs, one, other, slope):
    """Whether two places bar a slope and all greater ones."""
    return highs[other] - lows[one] < slope * (other - one)


def is_over_chord(values, ends, place, number):
    """Whether, at a place, the straight line between the values at two ends is from a number on."""
    one, other = ends
    return values[one] * (other - place) + values[other] * (place - one) >= number * (other - one)


def hull_of(values):
    """The places of the corners of the least concave line that is nowhere below some integers."""
    found = []
    for place in range(len(values)):
        while len(found) > 1 and is_over_chord(values, (found[-2], place), found[-1], values[found[-1]]):
            found.pop()
        found.append(place)
    return found


def over_chord(values, others):
    """Places (x, y, z) such that the straight line of the values at x and z is, at y, from the other integer there on.

    None if there are none. It is enough to look at corners.
    """
    corners = hull_of(values)
    places = hull_of([-other for other in others])
    for ends in zip(corners, corners[1:]):
        for place in places:
            if ends[0] < place < ends[1] and is_over_chord(values, ends, place, others[place]):
                return ends[0], place, ends[1]
    return None


def straight_bar(floors, tops):
    """Places (x,) or (x, y, z) that show that no straight line at all is from the floors on, and below the tops plus 1.

    None if there is such a line. There is one just if the concave line over the floors is below the convex one under
    the tops plus 1; where they are nearest, one of them has a corner.
    """
    crossed = first_crossed(floors, tops)
    if crossed is not None:
        return (crossed,)
    ends = [top + 1 for top in tops]
    found = over_chord(floors, ends)
    if found is None:
        found = over_chord([-end for end in ends], [-floor for floor in floors])
    return found


def shows_no_line(floors, tops, places):
    """Whether one or three places show, as told of straight_bar, that there is no straight line."""
    if len(places) == 1:
        return floors[places[0]] > tops[places[0]]
    one, place, other = places
    if is_over_chord(floors, (one, other), place, tops[place] + 1):
        return True
    return is_over_chord([-top - 1 for top in tops], (one, other), place, -floors[place])
