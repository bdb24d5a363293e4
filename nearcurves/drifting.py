"""What programs would tell without roundings, and how far from it they are at most."""

from nearcurves.corners import corners
from nearcurves.errors import Unlike
from nearcurves.polys import Poly
from nearcurves.ratios import lower, minus, plus, times

NONE = ((0, 1), (0, 1))


def need_plain(program):
    """The errors of programs with tables or rests."""
    if program.tables:
        raise Unlike("table")
    if any([sign == "&" for _, sign, _, _ in program.steps]):
        raise Unlike("rest")


def picked(operand, found, number):
    """What is found for an operand: that of a step, or what stands for a number."""
    is_number, place = operand
    return number if is_number else found[place]


def constant(operand):
    """The Poly of a number, that of the degree -1 for what is none."""
    is_number, value = operand
    return Poly((value,)) if is_number else Poly(())


def ideals(program):
    """The Polys of x and of all steps, as a list."""
    found = [Poly((0, 1))]
    for _, sign, operand, other in program.steps:
        one = picked(operand, found, constant(operand))
        if sign == "<<":
            found.append(one * (1 << other))
        elif sign == ">>":
            found.append(one * (1, 1 << other))
        elif sign == "":
            found.append(one)
        else:
            two = picked(other, found, constant(other))
            found.append(one * two if sign == "*" else (one + two if sign == "+" else one - two))
    return found


def drift_pairs(program, many):
    """The pairs (least, greatest) of all steps, for the inputs below many."""
    polys = ideals(program)
    found = [NONE]
    for _, sign, operand, other in program.steps:
        low, high = picked(operand, found, NONE)
        if sign == "<<":
            pair = (times(low, 1 << other), times(high, 1 << other))
        elif sign == ">>":
            less = (1 - (1 << other), 1 << other)
            pair = (plus(times(low, (1, 1 << other)), less), times(high, (1, 1 << other)))
        elif sign == "":
            pair = (low, high)
        else:
            least, most = picked(other, found, NONE)
            if sign == "+":
                pair = (plus(low, least), plus(high, most))
            elif sign == "-":
                pair = (minus(low, most), minus(high, least))
            else:
                one = corner_pair(picked(operand, polys, constant(operand)), many)
                two = corner_pair(picked(other, polys, constant(other)), many)
                pair = sum_of_pairs([
                    pair_product(one, (least, most)), pair_product(two, (low, high)),
                    pair_product((low, high), (least, most)),
                ])
        found.append(pair)
    return tuple(found[1:])


def corner_pair(poly, many):
    """The least and the greatest corner of an ideal on the inputs below many."""
    row = corners(poly, 0, many - 1) if many > 1 else (poly.at(0),)
    return least_and_most(row)


def least_and_most(ratios):
    """The least and the greatest of some ratios."""
    least = most = ratios[0]
    for ratio in ratios:
        least = ratio if lower(ratio, least) else least
        most = ratio if lower(most, ratio) else most
    return least, most


def pair_product(one, other):
    """The pair of the least and the greatest product of the items of two pairs."""
    return least_and_most([times(left, right) for left in one for right in other])


def sum_of_pairs(pairs):
    """The sum of some pairs, item by item."""
    low, high = NONE
    for least, most in pairs:
        low, high = plus(low, least), plus(high, most)
    return low, high
