"""Tables and lines for all inputs, and programs of polynomials."""

import unittest
from fractions import Fraction
from random import Random

from checking import sums_by_terms, value_near
from helping import NO_BITS, NO_RATIOS, Asking, fraction, pair

from nearcurves import makers
from nearcurves.blocks import least_shifted
from nearcurves.errors import BadNumber, Pole, TooWide, Unlike
from nearcurves.functions import Mixed, Pieces, Quotient
from nearcurves.makers import (
    Hard, Kept, LineBar, Lines, NoKept, NoShift, NoTable, Rounding, Table, TableBar, hardest, horner, is_kept, is_lines,
    is_shift,
    is_table, kept_row, least_kept, least_lines, least_shift, least_table, program_of, rounding,
)
from nearcurves.polys import Poly
from nearcurves.programs import Frame, Program
from nearcurves.rows import atan_row, exp_row, log_row, power_row, sin_row

EXP = Mixed(Poly(()), [(Poly((1,)), exp_row())])
BOTH = Mixed(Poly((1, (-1, 2))), [(Poly((0, 3)), sin_row()), (Poly(((1, 2), 1)), atan_row())])
LOG = Mixed(Poly(()), [(Poly((1,)), log_row())])
SQUARE = Mixed(Poly((1,)), [(Poly((0, 1)), power_row(2))])
RUNGE = Quotient(Poly((1,)), Poly((1, 0, 1)))
BENT = Pieces((-2, (1, 3), 5), (Poly((1, 1)), Poly(((7, 6), (1, 2)))))
STEEP = Pieces((0, 1, 2), (Poly((1,)), Poly((10, -19, 10))))
CUBIC = Poly((1, (-3, 2), 0, (2, 3)))
LINE = Poly(((1, 3), (5, 2)))

NO_WIDTHS = [0, 11, -1, True, None, "4", 4.0, (4, 1)]
NO_ES = [*NO_RATIOS, -1, (-1, 2)]

# Function, frame, width, bits of the gap.
CASES = [
    (CUBIC, Frame(-1, (1, 16), 4), 5, 0), (LINE, Frame(0, (1, 8), 3), 4, 60), (RUNGE, Frame((-1, 2), (1, 32), 6), 5, 3),
    (BENT, Frame(0, (1, 16), 5), 4, 9), (SQUARE, Frame(0, (1, 8), 2), 4, 7), (EXP, Frame(-1, (1, 16), 5), 5, 20),
    (EXP, Frame(0, (1, 4), 0), 3, 0),
    (BOTH, Frame((-1, 4), (1, 32), 7), 4, 30), (LOG, Frame(0, (1, 64), 6), 5, 40), (Poly(()), Frame(0, 1, 0), 2, 5),
    (Poly(((1, 2),)), Frame(0, 1, 0), 2, 5),
    (Poly((0, (1, 2))), Frame(0, 1, 0), 3, 5), (STEEP, Frame(0, (1, 8), 3), 4, 5), (STEEP, Frame(0, (1, 16), 6), 5, 5),
]
BOUNDS = [Fraction(0), Fraction(1, 4), Fraction(1, 2), Fraction(3, 4), Fraction(1), Fraction(5, 3), Fraction(4),
    Fraction(100)]
# Values of rows are known up to this, and no bound that is asked comes so near.
TINY = Fraction(1, 2 ** 70)


KNOWN = {}


def dues_of(function, frame, width):
    key = (id(function), frame.low, frame.step, frame.bits, width)
    if key not in KNOWN:
        near = sums_by_terms(function, 90) if isinstance(function, Mixed) else function
        points = [fraction(frame.low) + x * fraction(frame.step) for x in range(2 ** width)]
        # The function stands in the row, too, so that no other one has its id.
        KNOWN[key] = ([value_near(near, point)[0] * 2 ** frame.bits for point in points], function)
    return KNOWN[key][0]


def gap_of(function, bits):
    return Fraction(1, 2 ** bits) if function in (EXP, BOTH, LOG) else Fraction(0)


def ends_of(due, bound):
    """The least and the greatest integer within a bound, with a little room."""
    return -((bound + TINY - due) // 1), (due + bound + TINY) // 1


def none_within(dues, inputs, bound):
    """Whether no one integer is within a bound at all these inputs."""
    if bound < 0:
        return True
    ends = [ends_of(dues[x], bound - 2 * TINY if bound > 0 else bound) for x in inputs]
    return max(low for low, _ in ends) > min(high for _, high in ends)


def line_ends(due, bound, shift):
    low, high = ends_of(due, bound)
    return (low << shift), (high << shift) + (1 << shift) - 1


def line_bar_holds(dues, width, high, shift, bound, bar):
    """Whether a LineBar bars all lines of a shift for its block, by the sums of the document."""
    block = [x for x in range(2 ** width) if x >> (width - high) == bar.block]
    strict = bound - 2 * TINY
    (x, y), (z, t) = bar.lesser, bar.greater
    if not {x, y, z, t} <= set(block) or type(bar.slope) is not int:
        return False
    if x == y:
        return z == t == x and none_within(dues, [x], bound)
    if x >= y or z >= t:
        return False
    if line_ends(dues[y], strict, shift)[0] - line_ends(dues[x], strict, shift)[1] <= bar.slope * (y - x):
        return False
    return line_ends(dues[t], strict, shift)[1] - line_ends(dues[z], strict, shift)[0] < (bar.slope + 1) * (t - z)


def changed(answer, **fields):
    kept = dict(vars(answer))
    kept.update(fields)
    return type(answer)(*kept.values())


class MakerTests(Asking):
    def judged(self, judge, arguments, answer, others):
        self.assertIs(judge(*arguments, answer), True)
        for fields in others:
            self.assertIs(judge(*arguments, changed(answer, **fields)), False, fields)
        for other in (None, 0, True, "text", (), [], tuple(vars(answer).values()), object(), Hard(1, 2, 3),
            Rounding((), ())):
            self.assertIs(judge(*arguments, other), False)


class TestRounding(MakerTests):
    def test_by_dues(self):
        for function, frame, width, bits in CASES:
            dues = dues_of(function, frame, width)
            entries = [int(due // 1) + (x % 3 == 0) for x, due in enumerate(dues)]
            program = Program("table t " + " ".join(map(str, entries)) + "\ny = t[x]")
            told = rounding(program, function, frame, width, bits)
            self.assertEqual((type(told.wrong), type(told.unsure)), (tuple, tuple))
            wrong = [x for x, due in enumerate(dues) if abs(entries[x] - due) > Fraction(1, 2) + TINY]
            if gap_of(function, bits) == 0:
                self.assertEqual((told.wrong, told.unsure), (tuple(wrong), ()))
            for x, due in enumerate(dues):
                near = abs(abs(entries[x] - due) - Fraction(1, 2)) <= gap_of(function, bits)
                if not near:
                    self.assertEqual((x in told.wrong, x in told.unsure), (x in wrong, False))

    def test_halves(self):
        half = Poly(((1, 2),))
        for number, wrong in ((0, ()), (1, ()), (2, (0, 1)), (-1, (0, 1))):
            self.assertEqual(rounding(Program(f"y = {number}"), half, Frame(0, 1, 0), 1, 5).wrong, wrong)
        # At the point 0 the due is just 1 / 2, for a row that does not end.
        told = rounding(Program("y = 0"), Mixed(half, [(Poly((0, 1)), exp_row())]), Frame(0, 1, 0), 2, 60)
        self.assertEqual(told.wrong, (1, 2, 3))
        self.assertIn(told.unsure, ((), (0,)))
        # A little more than 1 / 2: by however little, it stands somewhere.
        more = Mixed(Poly(((2 ** 79 + 1, 2 ** 80),)), [(Poly((0, 1)), exp_row())])
        told = rounding(Program("y = 0"), more, Frame(0, 1, 0), 2, 60)
        self.assertEqual(sorted(told.wrong + told.unsure), [0, 1, 2, 3])

    def test_errors_in_their_order(self):
        short = Program("table t 1\ny = t[x]")
        for width in NO_WIDTHS:
            self.bad("width", width, rounding, short, EXP, Frame(0, 1, 0), width, None)
        for bits in NO_BITS:
            self.bad("bits", bits, rounding, short, LOG, Frame(0, 1, 0), 3, bits)
        with self.assertRaises(TooWide):
            rounding(short, Quotient(Poly((1,)), Poly((0, 1))), Frame(0, 1, 0), 3, 5)
        with self.assertRaises(Pole):
            rounding(Program("y = x"), Quotient(Poly((1,)), Poly((0, 1))), Frame(0, 1, 0), 3, 5)
        with self.assertRaises(TooWide):
            rounding(Program("y = x"), LOG, Frame(0, (1, 8), 0), 3, 5)

    def test_hardest(self):
        for function, frame, width, bits in CASES:
            dues = dues_of(function, frame, width)
            distances = [abs((due - Fraction(1, 2) + Fraction(1, 2)) % 1 - Fraction(1, 2)) for due in dues]
            gap = gap_of(function, bits)
            for many in (1, 3, 2 ** width - 1, 2 ** width, 2 ** width + 5, 10 ** 30):
                told = hardest(function, frame, width, many, bits)
                self.assertIs(type(told), tuple)
                self.assertEqual(len(told), min(many, 2 ** width))
                if gap == 0:
                    order = sorted(range(2 ** width), key=lambda x: (distances[x], x))
                    self.assertEqual([vars(item) for item in told],
                        [{"x": x, "least": pair(distances[x]), "most": pair(distances[x])} for x in order[:many]])
                for item in told:
                    self.assertTrue(fraction(item.least) - TINY <= distances[item.x] <= fraction(item.most) + TINY)
                    self.assertLessEqual(fraction(item.most) - fraction(item.least), gap)
                seen = [item.x for item in told]
                self.assertEqual(len(seen), len(set(seen)))
                for one, other in zip(seen, seen[1:]):
                    self.assertLessEqual(distances[one], distances[other] + gap)
                for x in set(range(2 ** width)) - set(seen):
                    self.assertGreaterEqual(distances[x] + gap, max(distances[one] for one in seen))

    def test_errors_of_hardest(self):
        for width in NO_WIDTHS:
            self.bad("width", width, hardest, LOG, Frame(0, 1, 0), width, None, None)
        for bits in NO_BITS:
            self.bad("bits", bits, hardest, LOG, Frame(0, 1, 0), 3, None, bits)
        for many in (0, -1, True, None, "1", (1, 1), 1.0):
            self.bad("many", many, hardest, LOG, Frame(0, 1, 0), 3, many, 4)
        with self.assertRaises(TooWide):
            hardest(LOG, Frame(0, 1, 0), 3, 1, 4)


class TestTables(MakerTests):
    def holds(self, answer, dues, width, e, gap):
        if isinstance(answer, NoTable):
            return none_within(dues, [answer.x], e - gap)
        if len(answer.entries) != 2 ** answer.high:
            return False
        for x, due in enumerate(dues):
            if abs(answer.entries[x >> (width - answer.high)] - due) > e + gap + TINY:
                return False
        if answer.high == 0:
            return answer.bar is None
        bar, low = answer.bar, width - answer.high + 1
        if bar.one > bar.other or not bar.one >> low == bar.other >> low == bar.block:
            return False
        return none_within(dues, [bar.one, bar.other], e - gap)

    def test_by_dues(self):
        seen = set()
        for function, frame, width, bits in CASES:
            dues = dues_of(function, frame, width)
            for e in BOUNDS:
                told = least_table(function, frame, width, pair(e), bits)
                self.assertTrue(self.holds(told, dues, width, e, gap_of(function, bits)))
                self.assertTrue(is_table(function, frame, width, pair(e), bits, told))
                if isinstance(told, Table):
                    seen.add(told.high)
                    program = program_of(told, width)
                    self.assertEqual([program.at(x) for x in range(2 ** width)],
                        [told.entries[x >> (width - told.high)] for x in range(2 ** width)])
                else:
                    seen.add(None)
        self.assertLessEqual({None, 0, 1, 2, 3, 4, 5}, seen)

    def test_by_hand(self):
        half = Poly((0, (1, 2)))
        told = least_table(half, Frame(0, 1, 0), 3, (1, 2), 0)
        self.assertEqual((told.high, told.bar.block), (2, 0))
        self.assertEqual(told.entries[0] in (0, 1) and told.entries[1] in (1, 2), True)
        told = least_table(half, Frame(0, 1, 0), 3, (1, 4), 0)
        self.assertEqual(told.x % 2, 1)
        told = least_table(half, Frame(0, 1, 0), 3, 2, 0)
        self.assertEqual((told.high, told.entries, told.bar), (0, (2,), None))
        self.assertEqual(least_table(Poly((3,)), Frame(0, 1, 0), 10, 0, 0).entries, (3,))

    def test_judge_with_one_thing_changed(self):
        half, frame = Poly((0, (1, 2))), Frame(0, 1, 0)
        arguments = (half, frame, 3, (1, 2), 0)
        told = Table(2, (0, 1, 2, 3), TableBar(0, 0, 3))
        self.judged(is_table, arguments, told, [
            {"high": 3}, {"high": 1}, {"high": True}, {"high": None}, {"high": -1}, {"entries": (0, 1, 2)},
            {"entries": (0, 1, 2, 3, 3)}, {"entries": None},
            {"entries": (0, 1, 2, 2)}, {"entries": (0, True, 2, 3)}, {"entries": (0, (1, 1), 2, 3)}, {"entries": "0123"},
            {"entries": {0: 1}}, {"bar": None},
            {"bar": TableBar(0, 0, 1)}, {"bar": TableBar(0, 3, 0)}, {"bar": TableBar(1, 0, 3)}, {"bar": TableBar(0, 0, 4)},
            {"bar": TableBar(2, 8, 11)}, {"bar": TableBar(-1, -4, -1)},
            {"bar": TableBar(2, 0, 3)},
            {"bar": TableBar(False, 0, 3)}, {"bar": TableBar(0, False, 3)}, {"bar": TableBar(0, 0, "3")},
            {"bar": TableBar(0, (0,), 3)}, {"bar": (0, 0, 3)},
            {"bar": TableBar(None, None, None)}, {"bar": TableBar(0, 0, 0)}, {"bar": TableBar(0, -1, 3)},
        ])
        self.assertTrue(is_table(*arguments, Table(2, [0, 1, 2, 3], TableBar(1, 4, 7))))
        self.assertFalse(is_table(*arguments, NoTable(1)))
        self.judged(is_table, (half, frame, 3, (1, 4), 0), NoTable(1),
            [{"x": 0}, {"x": 8}, {"x": -1}, {"x": True}, {"x": None}, {"x": "1"}, {"x": (1,)}])
        self.assertFalse(is_table(half, frame, 3, 2, 0, Table(1, (1, 3), TableBar(0, 0, 7))))
        self.assertTrue(is_table(half, frame, 3, 2, 0, Table(0, (2,), None)))
        self.assertFalse(is_table(half, frame, 3, 2, 0, Table(0, (2,), TableBar(0, 0, 7))))

    def test_bounds_within_the_gap(self):
        # The due of the input 0 is just 1; with a gap of 1 / 4 all that is true may be told for the bound 1 / 8.
        function, frame = Mixed(Poly((0,)), [(Poly((1,)), exp_row())]), Frame(0, (1, 1024), 0)
        self.assertTrue(is_table(function, frame, 1, (1, 8), 2, Table(0, (1,), None)))
        self.assertTrue(is_table(function, frame, 1, (1, 8), 2, NoTable(0)))
        self.assertFalse(is_table(function, frame, 1, (1, 4), 2, NoTable(0)))
        self.assertTrue(is_table(function, frame, 1, (1, 2), 2, Table(0, (1,), None)))
        self.assertTrue(is_table(function, frame, 1, (7, 8), 3, Table(0, (1,), None)))
        self.assertFalse(is_table(function, frame, 1, (7, 8), 4, Table(0, (2,), None)))
        # Just the bound e + gap, at the input 0.
        self.assertTrue(is_table(function, frame, 1, (3, 4), 2, Table(0, (2,), None)))

    def test_errors_in_their_order(self):
        log, frame = LOG, Frame(0, 1, 0)
        pole = Quotient(Poly((1,)), Poly((-2, 1)))
        for function, arguments, at in (
            (least_table, [log, frame, 3, 1, 4], {"width": 2, "bits": 4, "e": 3}),
            (is_table, [log, frame, 3, 1, 4, None], {"width": 2, "bits": 4, "e": 3}),
            (least_lines, [log, frame, 3, 5, 1, 4], {"width": 2, "bits": 5, "shift": 3, "e": 4}),
            (is_lines, [log, frame, 3, 5, 1, 4, None], {"width": 2, "bits": 5, "shift": 3, "e": 4}),
            (least_shift, [log, frame, 3, 2, 1, 4], {"width": 2, "bits": 5, "high": 3, "e": 4}),
            (is_shift, [log, frame, 3, 2, 1, 4, None], {"width": 2, "bits": 5, "high": 3, "e": 4}),
            (least_kept, [LINE, log, frame, 3, 1, 4, 5], {"width": 3, "bits": 5, "e": 4, "most": 6}),
            (is_kept, [LINE, log, frame, 3, 1, 4, 5, None], {"width": 3, "bits": 5, "e": 4, "most": 6}),
        ):
            wrong = {
                "width": NO_WIDTHS, "bits": NO_BITS, "shift": [-1, 31, True, None, "1", (1, 1)],
                "high": [-1, 4, True, None, "1", (1, 1)], "e": NO_ES,
                "most": [-1, 31, True, None, "1", (1, 1)],
            }
            names = list(at)
            for place, name in enumerate(names):
                for value in wrong[name]:
                    asked = list(arguments)
                    asked[at[name]] = value
                    for later in names[place + 1:]:
                        asked[at[later]] = None
                    self.bad(name, value, function, *asked)
            with self.assertRaises(TooWide):
                function(*arguments)
            asked = [pole if item is log else item for item in arguments]
            with self.assertRaises(Pole):
                function(*asked)
            asked = [Pieces((0, 3), (Poly((1,)),)) if item is log else item for item in arguments]
            with self.assertRaises(BadNumber) as caught:
                function(*asked)
            self.assertEqual((caught.exception.what, caught.exception.number), ("point", (4, 1)))


class TestLines(MakerTests):
    def holds(self, answer, dues, width, shift, e, gap):
        if isinstance(answer, NoTable):
            return none_within(dues, [answer.x], e - gap)
        low = width - answer.high
        if len(answer.entries) != 2 ** answer.high or answer.shift != shift:
            return False
        for x, due in enumerate(dues):
            a, b = answer.entries[x >> low]
            if abs(((a + b * (x % 2 ** low)) >> shift) - due) > e + gap + TINY:
                return False
        if answer.high == 0:
            return answer.bar is None
        return line_bar_holds(dues, width, answer.high - 1, shift, e - gap, answer.bar)

    def test_by_dues(self):
        for function, frame, width, bits in CASES:
            dues = dues_of(function, frame, width)
            for e in BOUNDS:
                for shift in (0, 2, 9, 30):
                    told = least_lines(function, frame, width, shift, pair(e), bits)
                    self.assertTrue(self.holds(told, dues, width, shift, e, gap_of(function, bits)))
                    self.assertTrue(is_lines(function, frame, width, shift, pair(e), bits, told))
                    if isinstance(told, Lines):
                        program = program_of(told, width)
                        for x in range(2 ** width):
                            a, b = told.entries[x >> (width - told.high)]
                            self.assertEqual(program.at(x), (a + b * (x % 2 ** (width - told.high))) >> shift)

    def test_by_all_slopes(self):
        # No line of one bit less: by all slopes that could be.
        frame = Frame(-1, (1, 8), 3)
        for shift, e in ((0, Fraction(1, 2)), (1, Fraction(1, 2)), (3, Fraction(1, 2)), (2, Fraction(1)),
            (5, Fraction(2, 3))):
            told = least_lines(CUBIC, frame, 4, shift, pair(e), 0)
            dues = dues_of(CUBIC, frame, 4)
            if told.high == 0:
                continue
            size = 2 ** (4 - told.high + 1)
            rows = [dues[start:start + size] for start in range(0, 16, size)]
            fitting = [self.has_line([line_ends(due, e, shift) for due in row], shift) for row in rows]
            self.assertIn(False, fitting)
            self.assertFalse(fitting[told.bar.block])

    def has_line(self, ends, shift):
        for slope in range(-40 << shift, 40 << shift):
            low = max(least - slope * rest for rest, (least, _) in enumerate(ends))
            if low <= min(most - slope * rest for rest, (_, most) in enumerate(ends)):
                return True
        return False

    def test_judge_with_one_thing_changed(self):
        frame = Frame(0, 1, 0)
        arguments = (LINE, frame, 2, 1, (1, 2), 0)
        told = least_lines(*arguments)
        self.assertEqual((told.high, told.bar), (0, None))
        self.judged(is_lines, arguments, told, [
            {"high": 1}, {"high": None}, {"high": False}, {"shift": 0}, {"shift": True}, {"shift": None}, {"entries": ()},
            {"entries": (told.entries[0],) * 2},
            {"entries": None}, {"entries": ((True, 5),)}, {"entries": ((1,),)}, {"entries": ((1, 5, 0),)},
            {"entries": ([1, 5],)}, {"entries": ((0, 0),)},
            {"entries": (3,)}, {"bar": LineBar(0, 0, (0, 1), (0, 1))}, {"bar": ()},
        ])
        square = Poly((0, 0, 1))
        arguments = (square, frame, 2, 3, 0, 5)
        told = least_lines(*arguments)
        self.assertEqual(told.high, 1)
        bar = told.bar
        for slope, is_right in ((14, False), (15, True), (20, True), (32, True), (33, False)):
            self.assertIs(is_lines(*arguments, changed(told, bar=LineBar(0, slope, (2, 3), (0, 1)))), is_right)
        self.assertFalse(is_lines(*arguments, changed(told, bar=LineBar(1, 20, (6, 7), (4, 5)))))
        self.assertFalse(is_lines(*arguments, changed(told, bar=LineBar(-1, 20, (-2, -1), (-4, -3)))))
        self.judged(is_lines, arguments, told, [
            {"high": 2}, {"high": 0}, {"shift": 2}, {"bar": None}, {"bar": ()}, {"bar": changed(bar, block=1)},
            {"bar": changed(bar, block=None)},
            {"bar": changed(bar, slope=None)}, {"bar": changed(bar, slope=bar.slope + 99)},
            {"bar": changed(bar, slope=bar.slope - 99)}, {"bar": changed(bar, slope=(1, 1))},
            {"bar": changed(bar, lesser=bar.greater, greater=bar.lesser)}, {"bar": changed(bar, lesser=(0, 4))},
            {"bar": changed(bar, lesser=(0, 0))},
            {"bar": changed(bar, lesser=bar.lesser[::-1])}, {"bar": changed(bar, greater=(0, 1, 2))},
            {"bar": changed(bar, greater=None)},
            {"bar": changed(bar, greater=("0", 1))}, {"bar": changed(bar, lesser=(0, 0), greater=(0, 0))},
            {"entries": told.entries[::-1]},
        ])
        half = Poly((0, (1, 2)))
        self.judged(is_lines, (half, frame, 3, 4, (1, 4), 0), NoTable(1), [{"x": 0}, {"x": 8}, {"x": True}, {"x": None}])
        # With bounds below 0 a bar of one input may have any slope.
        endless = Mixed(Poly((0,)), [(Poly((1,)), exp_row())])
        lines = Lines(1, 0, ((1, 0), (1, 0)), LineBar(0, -77, (1, 1), (1, 1)))
        self.assertTrue(is_lines(endless, Frame(0, (1, 1024), 0), 1, 0, (1, 8), 2, lines))
        self.assertFalse(is_lines(endless, Frame(0, (1, 1024), 0), 1, 0, (1, 2), 2, lines))
        self.assertFalse(is_lines(endless, Frame(0, (1, 1024), 0), 1, 0, (1, 8), 2,
            changed(lines, bar=LineBar(0, None, (1, 1), (1, 1)))))
        self.assertFalse(is_lines(endless, Frame(0, (1, 1024), 0), 1, 0, (1, 8), 2,
            changed(lines, bar=LineBar(0, 3, (1, 1), (0, 0)))))
        for bar in (LineBar(0, -77, (0, 1), (1, 1)), LineBar(0, 77, (1, 1), (0, 1))):
            self.assertFalse(is_lines(endless, Frame(0, (1, 1024), 0), 1, 0, (1, 8), 2, changed(lines, bar=bar)))


class TestShifts(MakerTests):
    def no_shift_holds(self, dues, width, high, bound, answer):
        """Whether a NoShift shows that there are no lines of any shift, by the lines of the document."""
        if any(x >> (width - high) != answer.block for x in answer.inputs):
            return False
        if bound < 0:
            return len(answer.inputs) in (1, 3)
        ends = [ends_of(due, bound - 2 * TINY if bound > 0 else bound) for due in dues]
        if len(answer.inputs) == 1:
            return ends[answer.inputs[0]][0] > ends[answer.inputs[0]][1]
        x, y, z = answer.inputs
        part = Fraction(y - x, z - x)
        floor = ends[x][0] + part * (ends[z][0] - ends[x][0])
        top = 1 + ends[x][1] + part * (ends[z][1] - ends[x][1])
        return x < y < z and (floor >= 1 + ends[y][1] or top <= ends[y][0])

    def test_by_dues(self):
        kinds = set()
        for function, frame, width, bits in CASES:
            dues, gap = dues_of(function, frame, width), gap_of(function, bits)
            for e in BOUNDS:
                for high in (0, 1, width - 1, width):
                    arguments = (function, frame, width, high, pair(e), bits)
                    told = least_shift(*arguments)
                    kinds.add((type(told), len(told.inputs) if isinstance(told, NoShift) else told.shift > 0))
                    self.assertTrue(is_shift(*arguments, told))
                    if isinstance(told, NoShift):
                        self.assertTrue(self.no_shift_holds(dues, width, high, e - gap, told))
                        continue
                    self.assertEqual(told.high, high)
                    for x, due in enumerate(dues):
                        a, b = told.entries[x >> (width - high)]
                        self.assertLessEqual(abs(((a + b * (x % 2 ** (width - high))) >> told.shift) - due), e + gap + TINY)
                    if told.shift == 0:
                        self.assertIsNone(told.bar)
                    else:
                        self.assertTrue(line_bar_holds(dues, width, high, told.shift - 1, e - gap, told.bar))
                        if gap == 0:
                            self.assertGreater(least_lines(function, frame, width, told.shift - 1, pair(e), bits).high,
                                high)
        self.assertEqual(kinds, {(NoShift, 1), (NoShift, 3), (Lines, True), (Lines, False)})

    def test_judge_with_one_thing_changed(self):
        frame = Frame(0, 1, 0)
        third = Poly((0, (1, 3)))
        arguments = (third, frame, 4, 0, (1, 2), 0)
        told = least_shift(*arguments)
        self.assertGreater(told.shift, 0)
        bar = told.bar
        self.judged(is_shift, arguments, told, [
            {"high": 1}, {"high": None}, {"high": False}, {"shift": told.shift - 1}, {"shift": told.shift + 1},
            {"shift": True}, {"shift": None}, {"shift": 31},
            {"entries": ()}, {"entries": ((0, 0),)}, {"entries": None}, {"bar": None},
            {"bar": changed(bar, slope=bar.slope + 50)}, {"bar": changed(bar, block=1)},
            {"bar": changed(bar, lesser=None)},
        ])
        a, b = told.entries[0]
        wider = Lines(0, told.shift + 1, ((2 * a, 2 * b),), bar)
        self.assertFalse(is_shift(*arguments, wider))
        square = Poly((0, 0, 1))
        arguments = (square, frame, 3, 1, (1, 2), 0)
        told = least_shift(*arguments)
        self.assertEqual(len(told.inputs), 3)
        x, y, z = told.inputs
        self.judged(is_shift, arguments, told, [
            {"block": 1 - told.block}, {"block": None}, {"block": 2}, {"block": bool(told.block)}, {"inputs": (x,)},
            {"inputs": ()}, {"inputs": (x, z)}, {"inputs": (z, y, x)},
            {"inputs": (x, x, z)}, {"inputs": (x, y, z, z)}, {"inputs": None}, {"inputs": (x, "1", z)},
            {"inputs": (0, 1, 7)}, {"inputs": (x, y, 9)}, {"block": 2, "inputs": (8, 9, 10)},
            {"block": -1, "inputs": (-4, -3, -2)},
        ])
        half = Poly((0, (1, 2)))
        self.judged(is_shift, (half, frame, 3, 3, (1, 4), 0), NoShift(1, (1,)), [
            {"inputs": (0,)}, {"inputs": (3,)}, {"block": 0}, {"block": 3}, {"inputs": (True,)}, {"inputs": (1, 1, 1)},
        ])
        # Dues 0, 0, 2 and 0, 1, 0 are just out of reach of lines; 0, 1, 2 and 0, 0, 1 are not.
        for numbers, is_right in (((0, -1, 1), True), ((0, 2, -1), True), ((0, 1), False), ((0, (-1, 2), (1, 2)), False)):
            self.assertIs(is_shift(Poly(numbers), frame, 2, 0, 0, 0, NoShift(0, (0, 1, 2))), is_right)
        self.assertTrue(is_shift(Poly((3,)), frame, 2, 0, 0, 0, Lines(0, 0, ((3, 0),), None)))
        self.assertFalse(is_shift(Poly((3,)), frame, 2, 0, 0, 0, Lines(0, 1, ((6, 0),), None)))

    def test_no_shift_of_these(self):
        # Lines have shifts that these inputs need; a limit below is told of as none.
        ends = ([0, 0, 1, 1, 1, 2], [0, 0, 1, 1, 1, 2])
        shift = least_shifted(ends, 6, 30)[0]
        self.assertGreater(shift, 0)
        self.assertIsNone(least_shifted(ends, 6, shift - 1))

    def test_sizes(self):
        frame = Frame(0, (1, 1024), 20)
        told = least_table(EXP, frame, 10, (2 ** 12, 1), 30)
        self.assertTrue(is_table(EXP, frame, 10, (2 ** 12, 1), 30, told))
        program = program_of(told, 10)
        self.assertEqual(program.at(1023), told.entries[-1])
        for shift in (0, 14, 30):
            lines = least_lines(EXP, frame, 10, shift, 2, 30)
            self.assertTrue(is_lines(EXP, frame, 10, shift, 2, 30, lines))
            self.assertEqual(rounding(program_of(lines, 10), EXP, frame, 10, 30).unsure, ())
        for high in (0, 4, 6, 10):
            lines = least_shift(EXP, frame, 10, high, 2, 30)
            self.assertTrue(is_shift(EXP, frame, 10, high, 2, 30, lines))
        self.assertEqual(len(hardest(EXP, frame, 10, 1024, 30)), 1024)
        random = Random(76)
        numbers = [(random.randrange(10 ** 59), random.randrange(10 ** 59, 10 ** 60)) for _ in range(13)]
        wide = Quotient(Poly(numbers), Poly(numbers[::-1]))
        frame = Frame(0, (1, 1000), 50)
        told = least_table(wide, frame, 10, (2 ** 40, 3), 0)
        self.assertTrue(is_table(wide, frame, 10, (2 ** 40, 3), 0, told))
        told = least_shift(wide, frame, 10, 5, (2 ** 40, 3), 0)
        self.assertTrue(is_shift(wide, frame, 10, 5, (2 ** 40, 3), 0, told))


class TestProgramOf(MakerTests):
    def test_numbers(self):
        self.assertEqual([program_of(Table(1, (-5, 10 ** 30 - 1), None), 3).at(x) for x in range(8)],
            [-5] * 4 + [10 ** 30 - 1] * 4)
        self.assertEqual([program_of(Table(0, [7], None), 1).at(x) for x in range(2)], [7, 7])
        self.assertEqual([program_of(Lines(1, 2, ((-5, 3), (9, -2)), None), 2).at(x) for x in range(4)], [-2, -1, 2, 1])
        self.assertEqual([program_of(Lines(0, 30, ((2 ** 30, -(2 ** 29)),), None), 2).at(x) for x in range(4)],
            [1, 0, 0, -1])
        self.assertEqual([program_of(Lines(2, 0, ((1, 9), (2, 9), (3, 9), (4, 9)), None), 2).at(x) for x in range(4)],
            [1, 2, 3, 4])

    def test_errors_in_their_order(self):
        for width in NO_WIDTHS:
            self.bad("width", width, program_of, Table(1, (), None), width)
        for told in (
            Table(1, (1,), None), Table(1, (1, 2, 3), None), Table(2, (1, 2, 3, 4), None), Table(0, (), None),
            Lines(1, 3, ((1, 2),), None),
            Lines(2, 3, ((1, 2),) * 4, None), Lines(0, 3, (), None),
        ):
            with self.assertRaises(Unlike) as caught:
                program_of(told, 1)
            self.assertEqual(caught.exception.what, "entries")


class TestKept(MakerTests):
    def by_steps(self, wholes, shifts, x):
        number = wholes[-1]
        for k in range(len(wholes) - 2, -1, -1):
            number = (number * x) // 2 ** shifts[k + 1] + wholes[k]
        return number // 2 ** shifts[0]

    def test_horner(self):
        random = Random(82)
        for many in (1, 2, 3, 7, 13):
            wholes = [random.randrange(-10 ** 30 + 1, 10 ** 30) for _ in range(many)]
            shifts = [random.choice((0, 1, 5, 17, 60)) for _ in range(many)]
            program = horner(wholes, tuple(shifts))
            for x in [*range(20), 1023, 10 ** 20, 3 ** 200]:
                self.assertEqual(program.at(x), self.by_steps(wholes, shifts, x))
        self.assertEqual(horner((0,), [0]).at(5), 0)
        self.assertEqual(horner([-7], (1,)).at(5), -4)
        self.assertEqual(horner((5, 0, -1), (0, 0, 0)).at(3), -4)

    def test_wrong_rows(self):
        for row in (None, 3, "12", (), [], (1,) * 14, (True,), (1.0,), ((1, 1),), (None,), {1: 2}, range(3), (1, "2")):
            self.bad_row(row, horner, row, None)
        for row in (None, 3, "12", (), (1,), (1, 2, 3), (1, -1), (1, 61), (1, True), (1, 1.0), (1, None), {0: 1, 1: 2},
            range(2)):
            self.bad_row(row, horner, (1, 2), row)

    def test_kept_row(self):
        random = Random(83)
        for degree in (-1, 0, 1, 3, 6):
            poly = Poly([(random.randrange(1, 99), random.randrange(1, 99)) for _ in range(degree + 1)])
            for frame in (Frame(0, (1, 32), 9), Frame((-3, 2), (5, 7), 0), Frame(2, (1, 3), 20)):
                for width in (1, 5, 10):
                    for kept in (0, 1, 7, 30):
                        wholes, shifts = kept_row(poly, frame, width, kept)
                        moved = poly.moved(frame.low, pair(fraction(frame.step) * 2 ** width))
                        numbers = [fraction(number) for number in moved.numbers] or [Fraction(0)]
                        expected = [(2 * number * 2 ** (frame.bits + kept) + 1) // 2 for number in numbers]
                        expected[0] += 2 ** (kept - 1) if kept > 0 else 0
                        self.assertEqual((wholes, shifts), (tuple(expected), (kept,) + (width,) * (len(numbers) - 1)))
        for width in NO_WIDTHS:
            self.bad("width", width, kept_row, LINE, Frame(0, 1, 0), width, None)
        for kept in (-1, 31, True, None, "1", (1, 1)):
            self.bad("kept", kept, kept_row, LINE, Frame(0, 1, 0), 3, kept)

    def test_least_kept(self):
        cubic = Poly((1, 1, (1, 2), (1, 6)))
        kinds = set()
        for poly, function, frame, width, bits in (
            (CUBIC, CUBIC, Frame(-1, (1, 16), 6), 5, 0), (cubic, EXP, Frame(0, (1, 64), 8), 5, 20),
            (Poly(()), LINE, Frame(0, (1, 9), 1), 3, 0),
            (Poly((3,)), BENT, Frame(0, (1, 9), 3), 3, 0), (Poly((1, 1)), EXP, Frame((-1, 32), (1, 256), 7), 4, 3),
            (LINE, LINE, Frame(0, (1, 3), 5), 10, 9),
        ):
            dues, gap = dues_of(function, frame, width), gap_of(function, bits)
            for e in BOUNDS[1:]:
                for most in (0, 3, 30):
                    arguments = (poly, function, frame, width, pair(e), bits, most)
                    told = least_kept(*arguments)
                    kinds.add(type(told) if isinstance(told, NoKept) else told.kept > 0)
                    self.assertTrue(is_kept(*arguments, told))
                    many = told.kept if isinstance(told, Kept) else most + 1
                    self.assertEqual((type(told.bars), len(told.bars)), (tuple, many))
                    for kept, x in enumerate(told.bars):
                        self.assertGreater(abs(self.by_steps(*kept_row(poly, frame, width, kept), x) - dues[x]),
                            e - gap - TINY)
                    if isinstance(told, Kept):
                        for x, due in enumerate(dues):
                            number = self.by_steps(*kept_row(poly, frame, width, told.kept), x)
                            self.assertEqual(told.program.at(x), number)
                            self.assertLessEqual(abs(number - due), e + gap + TINY)
        self.assertEqual(kinds, {NoKept, True, False})

    def test_judge_with_one_thing_changed(self):
        arguments = (CUBIC, CUBIC, Frame(-1, (1, 16), 6), 5, (3, 5), 0, 30)
        told = least_kept(*arguments)
        self.assertGreater(told.kept, 0)
        table = Program("table t " + " ".join(str(told.program.at(x)) for x in range(32)) + "\ny = t[x]")
        short = Program("table t " + " ".join(str(told.program.at(x)) for x in range(31)) + "\ny = t[x]")
        self.assertTrue(is_kept(*arguments, changed(told, program=table)))
        self.judged(is_kept, arguments, told, [
            {"kept": told.kept - 1}, {"kept": told.kept + 1}, {"kept": 31}, {"kept": True}, {"kept": None}, {"kept": -1},
            {"program": None}, {"program": short},
            {"program": "y = x"}, {"program": Program(table.text + "\nz = y + 1")}, {"bars": ()}, {"bars": (*told.bars, 0)},
            {"bars": None}, {"bars": (32, *told.bars[1:])},
            {"bars": (True, *told.bars[1:])}, {"bars": (None, *told.bars[1:])}, {"bars": ("0", *told.bars[1:])},
        ])
        within = [x for x in range(32) if abs(self.by_steps(*kept_row(*arguments[:1], arguments[2], 5, 0),
            x) - dues_of(CUBIC, arguments[2], 5)[x]) <= Fraction(3, 5)]
        self.assertFalse(is_kept(*arguments, changed(told, bars=(within[0], *told.bars[1:]))))
        arguments = (LINE, CUBIC, Frame(-1, (1, 16), 6), 5, 1, 0, 2)
        told = least_kept(*arguments)
        self.judged(is_kept, arguments, told,
            [{"bars": told.bars[:-1]}, {"bars": (*told.bars, 0)}, {"bars": None}, {"bars": (40, 40, 40)}, {"bars": "012"}])

    def test_sizes(self):
        random = Random(84)
        poly = Poly([(random.randrange(10 ** 20), random.randrange(10 ** 20, 10 ** 21)) for _ in range(9)])
        frame = Frame(0, (1, 1024), 30)
        told = least_kept(poly, poly, frame, 10, (51, 100), 20, 30)
        self.assertIsInstance(told, Kept)
        self.assertTrue(is_kept(poly, poly, frame, 10, (51, 100), 20, 30, told))
        self.assertEqual(rounding(told.program, poly, frame, 10, 0).unsure, ())


class TestClasses(Asking):
    def test_they_keep_what_they_are_given(self):
        self.keep_what_they_are_given({
            Rounding: ("wrong", "unsure"), Hard: ("x", "least", "most"), Table: ("high", "entries", "bar"),
            TableBar: ("block", "one", "other"), NoTable: ("x",),
            Lines: ("high", "shift", "entries", "bar"), LineBar: ("block", "slope", "lesser", "greater"),
            NoShift: ("block", "inputs"),
            Kept: ("kept", "program", "bars"), NoKept: ("bars",),
        })

    def test_where_they_are_defined(self):
        self.are_defined_in(
            makers, "Rounding", "Hard", "Table", "TableBar", "NoTable", "Lines", "LineBar", "NoShift", "Kept", "NoKept",
            "rounding", "hardest", "least_table",
            "least_lines", "least_shift", "program_of", "is_table", "is_lines", "is_shift", "horner", "kept_row",
            "least_kept", "is_kept",
        )


if __name__ == "__main__":
    unittest.main()
