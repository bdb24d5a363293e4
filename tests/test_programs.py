"""What programs tell FOR ALL inputs."""

import unittest
from fractions import Fraction
from random import Random

from checking import corners_by_sums, is_told_ratio, sums_by_terms, tail_by_sum, worth
from helping import NO_BITS, NO_RATIOS, Asking, fraction, pair

from nearcurves import programs
from nearcurves.errors import Pole, TooLarge, TooMany, TooWide, Unlike
from nearcurves.functions import Mixed, Quotient, least_terms
from nearcurves.polys import Poly
from nearcurves.programs import (
    Fine, Frame, NearBy, Off, Peak, Program, Shape, Spill, alike, alike_below, drifts, error_within, fits, greatest,
    greatest_error,
    ideal, least, least_word, never_falls, never_negative, shape,
)
from nearcurves.rows import exp_row, log_row, power_row
from nearcurves.turning import turns

NO_INPUTS = [-1, True, False, None, "1", 1.0, (1, 1), [1]]
NO_MANY = [0, -1, True, None, "1", 2.0, (2, 1), []]
TABLED = Program("table t 5 -3 9 9\na = x & 2\nb = t[a]")
SHORT = Program("table t 5 -3 9 9\na = x + 0\nb = t[a]")
DEEP = Program("a = x >> 5\nb = a & 6")
DEEP_AND_TABLED = Program("table t 1\na = x >> 5\nb = a & 6\nc = t[0]")
EXP = Mixed(Poly(()), [(Poly((1,)), exp_row())])
RUNGE = Quotient(Poly((1,)), Poly((1, 0, 1)))


def random_program(seed, steps, depth, degree):
    """A program without tables, of some steps, with COUNTs that sum up to at most depth."""
    random = Random(seed)
    known = [("x", 0, 1)]
    lines = []
    while len(lines) < steps:
        name, sums, power = random.choice(known[-4:])
        if random.random() < 0.2:
            name, sums, power = str(random.randrange(-40, 40)), 0, 0
        other, other_sums, other_power = random.choice(known[-4:])
        if random.random() < 0.3:
            other, other_sums, other_power = str(random.randrange(-9, 9)), 0, 0
        sign = random.choice(("+", "-", "*", "<<", ">>", "&", ""))
        count = random.randrange(5)
        if sign in ("+", "-", "*"):
            worth_of = f"{name} {sign} {other}"
            sums = max(sums, other_sums)
            power = power + other_power if sign == "*" else max(power, other_power)
        elif sign == "":
            worth_of = name
        else:
            worth_of = f"{name} {sign} {count}"
            sums += 0 if sign == "<<" else count
        if sums <= depth and power <= degree:
            known.append((f"s{len(lines)}", sums, power))
            lines.append(f"s{len(lines)} = {worth_of}")
    return Program("\n".join(lines))


def first(found):
    return next(iter(found), None)


class TestShapes(Asking):
    def test_shapes(self):
        for text, bits, polys in (
            ("y = x", 0, [(0, 1)]), ("y = 5", 0, [(5,)]), ("y = 0", 0, [()]), ("y = x & 1", 1, [(), (1,)]),
            ("y = x & 0", 0, [()]),
            ("y = x >> 1", 1, [(0, (1, 2)), ((-1, 2), (1, 2))]), ("a = x >> 0\ny = a", 0, [(0, 1)]),
            ("a = x << 3\ny = a >> 3", 0, [(0, 1)]),
            ("a = x * x\ny = a & 2", 1, [(), (1,)]), ("a = x + 1\nb = a * x\ny = b >> 1", 0, [(0, (1, 2), (1, 2))]),
            ("a = x & 1\nb = x >> 1\nc = b << 1\ny = a + c", 0, [(0, 1)]),
            ("a = x >> 1\nb = a >> 1\nc = x >> 2\ny = b - c", 0, [()]),
            ("a = -1 - x\ny = a & 2", 2, [(3,), (2,), (1,), ()]),
            ("a = x * x\nb = a >> 3\ny = b & 1", 4,
                [()] * 3 + [(1,)] + [()] * 2 + [()] + [()] + [()] * 5 + [(1,)] + [()] * 2),
        ):
            told = shape(Program(text))
            if bits < 4:
                self.assertEqual(told.polys, tuple(map(Poly, polys)))
                self.assertEqual(told.bits, bits)
            self.assertIs(type(told.polys), tuple)
            for x in range(70):
                self.assertEqual(told.at(x), Program(text).at(x))

    def test_by_values(self):
        for seed in range(40):
            program = random_program(seed, 7, 6, 4)
            told = shape(program)
            self.assertEqual(len(told.polys), 2 ** told.bits)
            for x in [*range(80), 10 ** 30 + seed, 2 ** 200 - 1]:
                self.assertEqual(told.at(x), program.at(x))
                self.assertEqual(worth(told.polys[x % 2 ** told.bits], Fraction(x)), program.at(x))
            half = len(told.polys) // 2
            self.assertTrue(told.bits == 0 or told.polys[:half] != told.polys[half:])

    def test_wrong_inputs(self):
        for x in NO_INPUTS:
            self.bad("x", x, shape(DEEP_ENOUGH).at, x)

    def test_errors_in_their_order(self):
        one = Program("y = x")
        for function in (shape, never_falls, never_negative, lambda it: alike(it, TABLED), lambda it: alike(one, it)):
            for program in (TABLED, DEEP_AND_TABLED):
                self.unlike("table", function, program)
            with self.assertRaises(TooMany) as caught:
                function(DEEP)
            self.assertEqual((caught.exception.what, caught.exception.limit), ("classes", 1024))
        with self.assertRaises(TooMany):
            alike(DEEP, TABLED)
        self.unlike("table", alike, TABLED, DEEP)

    def unlike(self, what, function, *arguments):
        with self.assertRaises(Unlike) as caught:
            function(*arguments)
        self.assertEqual(caught.exception.what, what)

    def test_how_many_classes(self):
        self.assertEqual(shape(Program("a = x >> 4\nb = a & 6")).bits, 10)
        for text in (
            "a = x & 11", "a = x >> 60", "a = x & 6\nb = x & 5\nc = a + b\nd = c >> 5", "a = x & 11\nb = 3",
            "a = x >> 6\nb = a << 50\nc = b & 5",
            "a = 3 & 6\nb = a >> 5",
        ):
            with self.assertRaises(TooMany):
                shape(Program(text))
        for text in ("a = x & 6\nb = x & 10\nc = a + b\nd = x >> 10\ne = c * d", "a = 3 & 10", "a = x << 60\nb = a << 60"):
            self.assertEqual(shape(Program(text)).at(1000), Program(text).at(1000))


DEEP_ENOUGH = Program("a = x >> 4\nb = a & 6")


class TestAllInputs(Asking):
    def test_by_values(self):
        many = 300
        for seed in range(60):
            one, other = random_program(seed, 6, 5, 4), random_program(seed // 2 + 900, 6, 5, 4)
            values = [one.at(x) for x in range(many)]
            others = [other.at(x) for x in range(many)]
            for told, found in (
                (alike(one, other), [x for x in range(many) if values[x] != others[x]]),
                (never_falls(one), [x for x in range(many - 1) if values[x + 1] < values[x]]),
                (never_negative(one), [x for x in range(many) if values[x] < 0]),
            ):
                self.assertTrue(told == first(found) if found else told is None or told >= many - 1)

    def test_alike(self):
        self.assertIsNone(alike(Program("a = x >> 2\nb = a >> 3"), Program("y = x >> 5")))
        self.assertIsNone(alike(Program("a = x * x\nb = a + x\nc = b & 1"), Program("y = 0")))
        self.assertEqual(alike(Program("y = x & 10"), Program("y = x")), 1024)
        self.assertEqual(alike(Program("y = x"), Program("y = 0")), 1)
        self.assertEqual(alike(Program("y = 0"), Program("y = 1")), 0)
        equal = "a = x - 1\nb = x - 2\nc = a * x\nd = c * b"
        self.assertEqual(alike(Program(equal), Program("y = 0")), 3)
        self.assertEqual(alike(Program(equal + "\ne = x >> 3\nf = d + e"), Program(equal)), 8)

    def test_falls(self):
        self.assertIsNone(never_falls(Program("y = x >> 7")))
        self.assertEqual(never_falls(Program("y = x & 7")), 127)
        self.assertEqual(never_falls(Program("y = 0 - x")), 0)
        self.assertIsNone(never_falls(Program("y = 3")))
        self.assertEqual(never_falls(Program(f"a = {10 ** 29} - x\nb = a * x")), 5 * 10 ** 28)
        self.assertEqual(never_falls(Program(f"a = {10 ** 29} - x\nb = a * x\nc = b >> 5")), self.first_fall())
        self.assertEqual(never_falls(Program("a = x - 50\nb = a * a\nc = b * -1")), 50)

    def first_fall(self):
        """The least x from about the top of a parabola at which its floor falls, by looking on from there."""
        program = Program(f"a = {10 ** 29} - x\nb = a * x\nc = b >> 5")
        x = 5 * 10 ** 28 - 100
        while program.at(x + 1) >= program.at(x):
            x += 1
        return x

    def test_least_inputs_of_many_digits(self):
        big = 10 ** 30 - 1
        self.assertEqual(never_negative(Program(f"y = {big} - x")), big + 1)
        self.assertEqual(never_negative(Program(f"a = {big} << 60\nb = a << 60\nc = b << 60\ny = c - x")), (big << 180) + 1)
        self.assertEqual(never_negative(Program(f"a = x * x\nb = {big} << 60\nc = b * x\nd = c - a")), (big << 60) + 1)
        # (x - a) ** 2 less 1 is below 0 at a alone; less 0 nowhere.
        square = f"a = x - {big}\nb = a * a\n"
        self.assertEqual(never_negative(Program(square + "c = b - 1")), big)
        self.assertIsNone(never_negative(Program(square + "c = b + 0")))
        self.assertIsNone(never_negative(Program(square + "c = b - 1\nd = c >> 3\ne = d + 1")))
        text = f"a = x - {big}\nb = x - {big - 2}\nc = a * b\nd = c * c\ne = d - 1\nf = x & 1\ng = f - 1\nh = g + e"
        program = Program(text)
        found = [x for x in range(big - 60, big + 60) if program.at(x) < 0]
        self.assertEqual(never_negative(program), found[0])
        self.assertEqual(alike(Program(f"a = x - {big}\nb = a * x"), Program("y = 0")), 1)

    def test_none(self):
        self.assertIsNone(never_negative(Program("y = 0")))
        self.assertIsNone(never_negative(Program("a = x * x\nb = a - x")))
        self.assertEqual(never_negative(Program("a = x * x\nb = a << 1\nc = b - x\nd = c - 1")), 0)
        self.assertEqual(never_negative(Program("a = x - 1\nb = x - 2\nc = a * b\nd = c * -1")), 0)
        self.assertEqual(never_negative(Program("a = x * -1")), 1)

    def test_sizes(self):
        roots = [123456789012345678, 5555555555555555555, 987654321987654321, 3]
        lines = [f"a{k} = x - {root}" for k, root in enumerate(roots)] + [f"b{k} = a{k} * a{k}" for k in range(4)]
        lines += ["c0 = b0 * b1", "c1 = b2 * b3", "d = c0 * c1", "e = d + x", "f = e >> 5", "g = f + b0", "h = g >> 5"]
        program = Program("\n".join(lines))
        self.assertIsNone(never_negative(program))
        self.assertEqual(never_negative(Program("\n".join([*lines, "i = h - 1"]))), None if program.at(3) >= 1 else 3)
        self.assertEqual(shape(program).at(2 ** 64 - 7), program.at(2 ** 64 - 7))
        self.assertIsNone(alike(program, Program(program.text + "\ni = h + 0")))
        self.assertEqual(least(program, 2 ** 64).value, min(program.at(root) for root in roots))
        self.assertGreater(least_word(program, 2 ** 64), 200)
        told = fits(program, 2 ** 64, 200)
        half = 2 ** 199
        self.assertTrue(any(not -half <= value < half for value in program.all_at(told.x)))
        self.assertTrue(all(-half <= value < half for value in program.all_at(max(0, told.x - 1))) or told.x == 0)


class TestInputsBelow(Asking):
    def test_by_values(self):
        for seed in range(40):
            program = random_program(seed, 6, 5, 4)
            other = random_program(seed // 2 + 900, 6, 5, 4)
            rows = [program.all_at(x) for x in range(1500)]
            values = [row[-1] for row in rows]
            for many in (1, 2, 3, 17, 100, 1500):
                told = greatest(program, many)
                self.assertEqual((told.x, told.value), (values.index(max(values[:many])), max(values[:many])))
                told = least(program, many)
                self.assertEqual((told.x, told.value), (values.index(min(values[:many])), min(values[:many])))
                unlike = [x for x in range(many) if values[x] != other.at(x)]
                self.assertEqual(alike_below(program, other, many), first(unlike))
                self.words(program, rows[:many], many)

    def words(self, program, rows, many):
        low, high = min(map(min, rows)), max(map(max, rows))
        word = 1
        while not -2 ** (word - 1) <= low <= high < 2 ** (word - 1):
            word += 1
        self.assertEqual(least_word(program, many), word)
        for size in (word, word - 1, word - 2, 1, 200):
            if size < 1:
                continue
            half = 2 ** (size - 1)
            spills = [
                (name, x) for x, row in enumerate(rows) for name,
                value in zip(program.names, row) if not -half <= value < half
            ]
            told = fits(program, many, size)
            self.assertEqual(first(spills), None if told is None else (told.name, told.x))

    def test_many_inputs(self):
        top = 2 ** 64
        program = Program(f"a = x - {2 ** 63}\nb = a * a\nc = b >> 9\nd = c - x")
        for many in (top, top - 1, 2 ** 63, 2 ** 40):
            for function, sign in ((greatest, 1), (least, -1)):
                told = function(program, many)
                self.assertEqual(told.value, program.at(told.x))
                spots = [0, 1, many - 1, many - 2, *range(2 ** 63 - 600, 2 ** 63 + 900), told.x - 1, told.x + 1]
                for x in spots:
                    if 0 <= x < many:
                        self.assertLessEqual(sign * program.at(x), sign * told.value)
                        self.assertTrue(program.at(x) != told.value or x >= told.x)
        self.assertEqual(vars(greatest(Program("y = x"), top)), {"x": top - 1, "value": top - 1})
        self.assertEqual(vars(least(Program("y = 3"), top)), {"x": 0, "value": 3})
        self.assertEqual(least_word(Program("y = x"), top), 65)
        self.assertEqual(least_word(Program("y = 0"), top), 1)
        self.assertEqual(least_word(Program("y = -1"), 1), 1)
        self.assertEqual(least_word(Program("y = 1"), 1), 2)
        self.assertEqual(vars(fits(Program("a = x\nb = 0 - x"), top, 64)), {"name": "a", "x": 2 ** 63})
        self.assertEqual(vars(fits(Program("a = x << 1\nb = 0 - x"), top, 64)), {"name": "a", "x": 2 ** 62})
        self.assertEqual(vars(fits(Program("a = 0 - x\nb = x"), top, 64)), {"name": "b", "x": 2 ** 63})
        self.assertEqual(vars(fits(Program("a = 0 - x\nb = x\nc = b - a"), top, 1)), {"name": "b", "x": 1})
        self.assertIsNone(alike_below(Program("y = x & 10"), Program("y = x"), 1024))
        self.assertEqual(alike_below(Program("y = x & 10"), Program("y = x"), 1025), 1024)
        self.assertEqual(alike_below(Program("y = x & 10"), Program("y = x"), top), 1024)

    def test_tables(self):
        self.assertEqual(vars(greatest(TABLED, 1024)), {"x": 2, "value": 9})
        self.assertEqual(vars(least(TABLED, 1024)), {"x": 1, "value": -3})
        self.assertEqual(vars(greatest(TABLED, 1)), {"x": 0, "value": 5})
        self.assertEqual(least_word(TABLED, 1024), 5)
        self.assertIsNone(fits(TABLED, 1024, 5))
        self.assertEqual(vars(fits(TABLED, 1024, 4)), {"name": "b", "x": 2})
        self.assertEqual(vars(fits(TABLED, 1024, 1)), {"name": "b", "x": 0})
        just = Program("table t -4 3 -5 4\ny = t[x]")
        self.assertIsNone(fits(just, 2, 3))
        self.assertEqual([fits(just, many, 3).x for many in (3, 4)], [2, 2])
        self.assertEqual(vars(fits(Program("table t 0 4\ny = t[x]"), 2, 3)), {"name": "y", "x": 1})
        self.assertEqual([least_word(just, many) for many in (1, 2, 3, 4)], [3, 3, 4, 4])
        self.assertIsNone(alike_below(TABLED, SHORT, 4))
        plain = Program("a = x & 2\nb = a * -8\nc = b + 5")
        self.assertEqual(alike_below(TABLED, plain, 1024), 2)
        self.assertEqual(alike_below(plain, TABLED, 1024), 2)
        self.assertIsNone(alike_below(plain, TABLED, 2))
        self.assertIsNone(alike_below(TABLED, Program("table t 5 -3 9 9\na = x & 2\nb = t[a]\nc = b"), 1024))

    def test_errors_in_their_order(self):
        one = Program("y = x")
        frame = Frame(0, 1, 0)
        asked = (
            greatest, least, least_word, lambda it, many: fits(it, many, 3), lambda it, many: alike_below(it, one, many),
            lambda it, many: alike_below(one, it, many), lambda it, many: greatest_error(it, Poly((1,)), frame, many),
            lambda it, many: error_within(it, EXP, frame, many, 3, 4),
        )
        for function in asked:
            for program in (one, TABLED, DEEP):
                for many in NO_MANY:
                    self.bad("many", many, function, program, many)
            for program, most in ((one, 2 ** 64), (DEEP, 2 ** 64), (TABLED, 1024), (SHORT, 1024), (DEEP_AND_TABLED, 1024)):
                for many in (most + 1, 2 ** 64 + 1, 10 ** 50):
                    with self.assertRaises(TooLarge) as caught:
                        function(program, many)
                    self.assertIn((caught.exception.what, caught.exception.number), [("many", many)])
                    limits = (most, 2 ** 64) if many > 2 ** 64 else (most,)
                    self.assertIn(caught.exception.limit, limits)
            with self.assertRaises(TooMany):
                function(DEEP, 1)
            with self.assertRaises(TooWide):
                function(SHORT, 5)
        for word in (0, 201, -1, True, None, "8", 8.0):
            self.bad("word", word, fits, SHORT, None, word)
        with self.assertRaises(TooMany):
            alike_below(DEEP, SHORT, 5)
        with self.assertRaises(TooWide):
            alike_below(SHORT, DEEP, 5)
        self.assertIsNone(fits(one, 2 ** 64, 65))

    def test_a_table_of_many_numbers(self):
        numbers = " ".join(str(k * k - 900 * k) for k in range(1024))
        program = Program(f"table t {numbers}\na = x\nb = t[a]\nc = b << 1")
        self.assertEqual(vars(least(program, 1024)), {"x": 450, "value": -405000})
        self.assertEqual(vars(greatest(program, 1024)), {"x": 1023, "value": 2 * 1023 * 123})
        with self.assertRaises(TooLarge):
            greatest(program, 1025)


class TestTurns(Asking):
    def row_of(self, roots):
        """The row of integers with these zeros, Fractions."""
        row = [1]
        for root in roots:
            product = [0] * (len(row) + 1)
            for power, number in enumerate(row):
                product[power] -= number * root.numerator
                product[power + 1] += number * root.denominator
            row = product
        return row

    def test_each_change_of_sign_is_told(self):
        random = Random(75)
        for _ in range(400):
            many = random.randrange(1, 7)
            near = random.choice((8, 64, 10 ** 6))
            roots = [Fraction(random.choice((random.randrange(near), 8, 16, 4)),
                random.choice((1, 1, 2, 3))) for _ in range(many)]
            factor = random.choice((1, -3))
            row = [factor * number for number in self.row_of(roots)]
            odd = [root for root in roots if roots.count(root) % 2 == 1]
            for most in (None, 5, 16, near):
                told = turns(row, most)
                for root in odd:
                    if most is None or root <= most:
                        self.assertTrue(any(k <= root <= k + 1 for k in told), (roots, most))
                self.assertLessEqual(len(told), 6 * many)
        for roots in ((16, 17), (1, 2), (1, 2, 4, 5), (7, 8, 24)):
            told = turns(self.row_of([Fraction(root, 3) for root in roots]), None)
            for root in roots:
                self.assertTrue(any(k <= Fraction(root, 3) <= k + 1 for k in told))
        self.assertEqual(turns([5], 9), [])
        self.assertEqual(turns([], 9), [])
        self.assertEqual(turns([1, 0, 1], None), [])

    def test_turns_at_powers_of_two(self):
        for roots in ((8, 3, 12), (8, 8, 8, 2), (16, 8, 4), (1, 2, 3), (4, 4, 4), (0, 5), (8,), (2048, 1024, 512)):
            # The slope of the program is a product of these x - root, times 60.
            row = [Fraction(number, power + 1) for power,
                number in enumerate(self.row_of([Fraction(root) for root in roots]))]
            lines, total = [], "0"
            for power in range(len(row) - 1, -1, -1):
                lines.append(f"a{power} = {total} + {row[power].numerator * (60 // row[power].denominator)}")
                lines.append(f"b{power} = a{power} * x")
                total = f"b{power}"
            program = Program("\n".join(lines))
            values = [program.at(x) for x in range(5000)]
            for many in (5, 9, 17, 3000, 5000):
                self.assertEqual(greatest(program, many).value, max(values[:many]))
                self.assertEqual(least(program, many).x, values.index(min(values[:many])))


class TestFrames(Asking):
    def test_points(self):
        frame = Frame((2, 4), [3, 9], 7)
        self.assertEqual((frame.low, frame.step, frame.bits), ((1, 2), (1, 3), 7))
        self.assertEqual([frame.point(x) for x in (0, 1, -2, 10 ** 30)],
            [(1, 2), (5, 6), (-1, 6), pair(Fraction(1, 2) + Fraction(10 ** 30, 3))])
        self.assertEqual(Frame(-1, 2, 0).point(3), (5, 1))

    def test_errors_in_their_order(self):
        for low in NO_RATIOS:
            self.bad("low", low, Frame, low, None, None)
        for step in [*NO_RATIOS, 0, -1, (0, 3), (-1, 2), [-1, 2]]:
            self.bad("step", step, Frame, 0, step, None)
        for bits in NO_BITS:
            self.bad("bits", bits, Frame, 0, 1, bits)

    def values(self, function, point):
        if isinstance(function, Quotient):
            return worth(function.top, point) / worth(function.bottom, point)
        return worth(function, point)

    def test_greatest_error(self):
        functions = [
            Poly(()), Poly((3,)), Poly((1, (-1, 2), (1, 3))), RUNGE, Quotient(Poly((1, 2)), Poly((-9, -1, -1))),
            Quotient(Poly((4, 1)), Poly((2,))),
            Quotient(Poly(()), Poly((1, 1, 1))),
        ]
        for seed in range(25):
            program = random_program(seed, 6, 4, 3)
            frame = Frame((seed - 12, 5), (seed % 4 + 1, 7), seed % 3)
            for function in functions[seed % 2::2]:
                errors = []
                for x in range(1100):
                    point = fraction(frame.low) + x * fraction(frame.step)
                    errors.append(abs(Fraction(program.at(x), 2 ** frame.bits) - self.values(function, point)))
                for many in (1, 2, 50, 1100):
                    told = greatest_error(program, function, frame, many)
                    self.assertTrue(is_told_ratio(told.value))
                    most = max(errors[:many])
                    self.assertEqual((told.x, fraction(told.value)), (errors.index(most), most))

    def test_greatest_error_with_tables(self):
        frame = Frame(0, (1, 4), 3)
        told = greatest_error(TABLED, Poly((0, 1)), frame, 5)
        self.assertEqual(vars(told), {"x": 0, "value": (5, 8)})
        for function in (Poly((1, (-3, 2), (2, 5))), Quotient(Poly((1, 2)), Poly((-9, 0, -1)))):
            told = greatest_error(TABLED, function, frame, 1000)
            errors = [abs(Fraction(TABLED.at(x), 8) - self.values(function, Fraction(x, 4))) for x in range(1000)]
            self.assertEqual((told.x, fraction(told.value)), (errors.index(max(errors)), max(errors)))
        told = greatest_error(TABLED, RUNGE, frame, 5)
        errors = [abs(Fraction(TABLED.at(x), 8) - 1 / (1 + Fraction(x, 4) ** 2)) for x in range(5)]
        self.assertEqual((told.x, fraction(told.value)), (errors.index(max(errors)), max(errors)))

    def test_many_inputs(self):
        # The program tells floor(x * x / 2 ** 64), for numbers of 64 bits: its error is less than 1 / 2 ** 64.
        program = Program("a = x >> 5\nb = a * a\nc = b >> 5")
        frame = Frame(0, (1, 2 ** 64), 60)
        told = greatest_error(program, Poly((0, 0, 2 ** 53)), frame, 2 ** 64)
        point = Fraction(told.x, 2 ** 64)
        self.assertEqual(fraction(told.value), abs(Fraction(program.at(told.x), 2 ** 60) - 2 ** 53 * point ** 2))
        for x in [*range(2 ** 64 - 3000, 2 ** 64), *range(2000)]:
            error = abs(Fraction(program.at(x), 2 ** 60) - 2 ** 53 * Fraction(x, 2 ** 64) ** 2)
            self.assertTrue(error < fraction(told.value) or (error == fraction(told.value) and x >= told.x))
        told = greatest_error(program, RUNGE, frame, 2 ** 64)
        self.assertEqual(fraction(told.value),
            abs(Fraction(program.at(told.x), 2 ** 60) - self.values(RUNGE, Fraction(told.x, 2 ** 64))))

    def test_poles(self):
        program = Program("y = x")
        for bottom, low, many in (
            (Poly((-1, 2)), 0, 2), (Poly((-1, 2)), (1, 2), 1), (Poly((0, 1)), 0, 1), (Poly((-2, 0, 1)), 0, 3),
            (Poly((3, -1)), 0, 4),
            (Poly((1, -4, 4)), 0, 2),
        ):
            with self.assertRaises(Pole):
                greatest_error(program, Quotient(Poly((1,)), bottom), Frame(low, 1, 0), many)
        self.assertEqual(greatest_error(program, Quotient(Poly((1,)), Poly((-1, 2))), Frame(0, 1, 0), 1).value, (1, 1))
        self.assertEqual(greatest_error(program, Quotient(Poly((1,)), Poly((3, -1))), Frame(0, 1, 0), 3).value, (1, 1))
        with self.assertRaises(TooMany):
            greatest_error(DEEP, Quotient(Poly((1,)), Poly((0, 1))), Frame(0, 1, 0), 1)

    def test_error_within(self):
        # Numbers near to exp: 1 + x + x * x / 2 at points x / 256, with 16 bits.
        program = Program("a = x << 8\nb = x * x\nc = b >> 1\nd = a + c\ne = d + 65536")
        frame, many = Frame(0, (1, 256), 16), 128
        bits = 10
        terms = least_terms(EXP, frame.point(0), frame.point(many), bits)
        rest = tail_by_sum(EXP, frame.point(0), frame.point(many), terms)
        near = sums_by_terms(EXP, terms)
        errors = [abs(Fraction(program.at(x), 65536) - worth(near, Fraction(x, 256))) for x in range(many)]
        most = max(errors)
        told = error_within(program, EXP, frame, many, pair(most + rest), bits)
        self.assertIsInstance(told, Fine)
        less = most + rest - Fraction(1, 10 ** 30)
        told = error_within(program, EXP, frame, many, pair(less), bits)
        self.assertEqual(told.slack, pair(2 * rest))
        self.assertIsInstance(told, NearBy)
        told = error_within(program, EXP, frame, many, pair(most - rest), bits)
        self.assertIsInstance(told, NearBy)
        told = error_within(program, EXP, frame, many, pair(most - rest - Fraction(1, 10 ** 30)), bits)
        self.assertIsInstance(told, Off)
        self.assertGreater(errors[told.x], most - Fraction(1, 10 ** 30))
        self.assertIsInstance(error_within(program, EXP, frame, many, 0, 60), Off)
        self.assertIsInstance(error_within(program, EXP, frame, many, 2, 0), Fine)

    def test_error_within_of_rows_that_end(self):
        program = Program("a = x + 1\nb = a * a")
        square = Mixed(Poly(()), [(Poly((1,)), power_row(2))])
        self.assertIsInstance(error_within(program, square, Frame(0, 1, 0), 2 ** 64, 0, 3), Fine)
        program = Program("a = x + 1\nb = a * a\nc = b - 1")
        self.assertIsInstance(error_within(program, square, Frame(0, 1, 0), 2 ** 64, 1, 3), Fine)
        self.assertIsInstance(error_within(program, square, Frame(0, 1, 0), 9, (99, 100), 3), Off)

    def test_errors_of_error_within(self):
        log = Mixed(Poly(()), [(Poly((1,)), log_row())])
        program = Program("y = x")
        for e in [*NO_RATIOS, -1, (-1, 2)]:
            self.bad("e", e, error_within, program, log, Frame(0, 1, 0), 9, e, None)
        for bits in NO_BITS:
            self.bad("bits", bits, error_within, program, log, Frame(0, 1, 0), 9, 1, bits)
        with self.assertRaises(TooWide):
            error_within(program, log, Frame(0, 1, 0), 9, 1, 3)
        # The interval goes to the point of many, which no input has.
        error_within(program, log, Frame(0, (1, 8), 3), 4, 1, 3)
        with self.assertRaises(TooWide):
            error_within(program, log, Frame(0, (1, 8), 3), 5, 1, 3)
        for low, step, many in (((-5, 8), (1, 8), 3), ((-1, 2), (1, 8), 9)):
            with self.assertRaises(TooWide):
                error_within(program, log, Frame(low, step, 0), many, 9, 3)
        error_within(program, log, Frame((-1, 2), (1, 8), 0), 8, 9, 3)
        with self.assertRaises(TooMany):
            error_within(DEEP, log, Frame(0, 1, 0), 9, None, None)


class TestDrifts(Asking):
    def by_reckoning(self, program, many):
        """The ideals and pairs by the sums of the document, for programs of plain lines NAME = A SIGN B."""
        ideals = {"x": [Fraction(0), Fraction(1)]}
        pairs = {"x": (Fraction(0), Fraction(0))}
        for line in program.text.split("\n"):
            name, value = line.split(" = ")
            words = value.split(" ")
            items = []
            for word in (words[0], words[-1]):
                items.append((ideals[word], pairs[word]) if word in ideals else ([Fraction(int(word))],
                    (Fraction(0), Fraction(0))))
            (one, (l, u)), (two, (m, v)) = items
            sign = words[1] if len(words) == 3 else ""
            k = int(words[-1]) if sign in ("<<", ">>") else 0
            size = max(len(one), len(two))
            long_one, long_two = one + [Fraction(0)] * (size - len(one)), two + [Fraction(0)] * (size - len(two))
            if sign == "+":
                found, drift = [a + b for a, b in zip(long_one, long_two)], (l + m, u + v)
            elif sign == "-":
                found, drift = [a - b for a, b in zip(long_one, long_two)], (l - v, u - m)
            elif sign == "*":
                found = [Fraction(0)] * (len(one) + len(two) - 1)
                for i, a in enumerate(one):
                    for j, b in enumerate(two):
                        found[i + j] += a * b
                products = [self.product(self.corners(one, many), (m, v)), self.product(self.corners(two, many), (l, u)),
                    self.product((l, u), (m, v))]
                drift = (sum(low for low, _ in products), sum(high for _, high in products))
            elif sign == "<<":
                found, drift = [a * 2 ** k for a in one], (l * 2 ** k, u * 2 ** k)
            elif sign == ">>":
                found, drift = [a / 2 ** k for a in one], (l / 2 ** k - 1 + Fraction(1, 2 ** k), u / 2 ** k)
            else:
                found, drift = one, (l, u)
            ideals[name], pairs[name] = found, drift
        return [ideals[name] for name in program.names], [pairs[name] for name in program.names]

    def corners(self, numbers, many):
        poly = Poly([pair(number) for number in numbers])
        row = corners_by_sums(poly, 0, many - 1, max(0, poly.degree())) if many > 1 else [numbers[0]]
        return min(row), max(row)

    def product(self, one, other):
        found = [a * b for a in one for b in other]
        return min(found), max(found)

    def test_by_reckoning(self):
        for seed in range(60):
            text = random_program(seed, 8, 30, 5).text
            program = Program(text.replace("&", "<<"))
            for many in (1, 2, 5, 1000, 2 ** 64):
                ideals, pairs = self.by_reckoning(program, many)
                told = drifts(program, many)
                self.assertIs(type(told), tuple)
                self.assertEqual(told, tuple((pair(low), pair(high)) for low, high in pairs))
                self.assertEqual(ideal(program), Poly([pair(number) for number in ideals[-1]]))
                for x in {0, 1, many // 2, many - 1, 77}:
                    if x < many:
                        for value, numbers, (low, high) in zip(program.all_at(x), ideals, pairs):
                            drift = value - sum(number * x ** k for k, number in enumerate(numbers))
                            self.assertTrue(low <= drift <= high)

    def test_by_hand(self):
        program = Program("a = x >> 3\nb = a * a\nc = b >> 60\nd = 5 - c")
        self.assertEqual(ideal(program), Poly((5, 0, (-1, 2 ** 66))))
        self.assertEqual(drifts(program, 1)[:2], (((-7, 8), (0, 1)), ((0, 1), (49, 64))))
        self.assertEqual(drifts(program, 17)[1], ((-7, 2), (49, 64)))
        self.assertEqual(drifts(Program("a = 3\nb = x\nc = a"), 9), (((0, 1), (0, 1)),) * 3)
        self.assertEqual(drifts(Program("a = x >> 0"), 9), (((0, 1), (0, 1)),))

    def test_words_of_any_size(self):
        text = "a0 = x << 60\n" + "\n".join(f"a{k} = a{k - 1} << 60" for k in range(1, 15))
        text += "\n" + "\n".join(f"a{k} = a{k - 1} >> 60" for k in range(15, 29)) + "\nz = a28 * a28"
        program = Program(text)
        self.assertEqual(ideal(program), Poly((0, 0, 2 ** 120)))
        self.assertEqual(len(drifts(program, 2 ** 64)), 30)

    def test_errors_in_their_order(self):
        for program, what in (
            (TABLED, "table"), (Program("y = x & 1"), "rest"), (Program("table t 1\ny = x"), "table"),
            (Program("a = x & 60\nb = 3"), "rest"),
        ):
            for function in (lambda it: ideal(it), lambda it: drifts(it, 5), lambda it: drifts(it, None),
                lambda it: drifts(it, 2 ** 65)):
                with self.assertRaises(Unlike) as caught:
                    function(program)
                self.assertEqual(caught.exception.what, what)
        deep = Program("a = x >> 60\nb = a >> 60")
        for many in NO_MANY:
            self.bad("many", many, drifts, deep, many)
        with self.assertRaises(TooLarge) as caught:
            drifts(deep, 2 ** 64 + 1)
        self.assertEqual((caught.exception.what, caught.exception.number, caught.exception.limit),
            ("many", 2 ** 64 + 1, 2 ** 64))


class TestClasses(Asking):
    def test_they_keep_what_they_are_given(self):
        self.keep_what_they_are_given({
            Shape: ("bits", "polys"), Peak: ("x", "value"), Spill: ("name", "x"), Off: ("x",), NearBy: ("slack",),
        })
        self.assertNotEqual(Fine(), Fine())

    def test_where_they_are_defined(self):
        self.are_defined_in(
            programs, "Program", "Shape", "Peak", "Spill", "Frame", "Fine", "Off", "NearBy", "shape", "alike",
            "never_falls",
            "never_negative", "greatest", "least", "fits", "least_word", "alike_below", "greatest_error", "error_within",
            "ideal", "drifts",
        )


if __name__ == "__main__":
    unittest.main()
