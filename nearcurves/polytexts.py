"""Reading the texts of polynomials.

Each function reads what begins at an index of a text, and tells it with the index behind it. BadText tells the
column of the first character with which no right text goes on; what stands behind the whole is left to the caller.
"""

from nearcurves.errors import BadText
from nearcurves.ratios import times

DIGITS = "0123456789"
MOST_DIGITS = 40


def behind_spaces(text, at):
    """The index of the first character from an index on that is no space."""
    while text[at:at + 1] == " ":
        at = at + 1
    return at


def is_digit(text, at):
    """Whether a digit stands at an index, which may be that of the end."""
    return at < len(text) and text[at] in DIGITS


def read_whole(text, at):
    """An integer from 0 on, without a 0 ahead of another digit, of as many digits as may be."""
    if not is_digit(text, at):
        raise BadText(at + 1)
    end = at + 1
    while text[at] != "0" and is_digit(text, end) and end - at < MOST_DIGITS:
        end = end + 1
    return int(text[at:end]), end


def read_number(text, at):
    """A ratio from 0 on, in the terms of the text."""
    top, end = read_whole(text, at)
    if text[end:end + 1] != "/":
        return (top, 1), end
    bottom, behind = read_whole(text, end + 1)
    if bottom == 0:
        raise BadText(end + 2)
    return (top, bottom), behind


def read_power(text, at):
    """The exponent of a power of x."""
    if text[at:at + 1] != "x":
        raise BadText(at + 1)
    if text[at + 1:at + 2] != "^":
        return 1, at + 1
    start = at + 2
    if text[start:start + 2] in ("10", "11", "12"):
        return int(text[start:start + 2]), start + 2
    if not is_digit(text, start):
        raise BadText(start + 1)
    return int(text[start]), start + 1


def read_term(text, at):
    """The number of a term, its power, and the index behind it."""
    if text[at:at + 1] == "x":
        power, end = read_power(text, at)
        return (1, 1), power, end
    number, end = read_number(text, at)
    star = behind_spaces(text, end)
    if text[star:star + 1] != "*":
        return number, 0, end
    power, end = read_power(text, behind_spaces(text, star + 1))
    return number, power, end


def sign_at(text, at):
    """1 or -1 for the sign + or - at an index, 0 if there is none."""
    sign = text[at:at + 1]
    if sign == "+":
        return 1
    return -1 if sign == "-" else 0


def read_terms(text, at):
    """All terms of a polynomial, as a list of pairs (number, power) with their signs, spaces behind them read too."""
    terms = []
    at = behind_spaces(text, at)
    sign = 1
    if text[at:at + 1] == "-":
        sign = -1
        at = at + 1
    while sign != 0:
        number, power, end = read_term(text, behind_spaces(text, at))
        terms.append((times(number, sign), power))
        end = behind_spaces(text, end)
        sign = sign_at(text, end)
        at = end if sign == 0 else end + 1
    return terms, at
