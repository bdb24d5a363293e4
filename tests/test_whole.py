"""What holds over the whole program: answers are passed back, arguments stay, equal calls tell equal things."""

import ast
import copy
import unittest
from pathlib import Path

from helping import Asking

from nearcurves import (
    corners, cuts, desk, errors_of, functions, grids, intervalfits, makers, pointfits, polys, programs, quotients, ratios,
    rows, runs, signs,
)
from nearcurves.desk import Desk
from nearcurves.functions import Mixed, Pieces, Quotient
from nearcurves.pointfits import Points
from nearcurves.polys import Poly
from nearcurves.programs import Frame, Program
from nearcurves.rows import Row, exp_row, sin_row

PACKAGE = Path(polys.__file__).parent

CUBIC = Poly((1, (-3, 2), 0, 1))
EXP = Mixed(Poly(()), [(Poly((1,)), exp_row())])
RUNGE = Quotient(Poly((1,)), Poly((1, 0, 1)))
BENT = Pieces((-1, 0, 1), (Poly((0, -1)), Poly((0, 1))))
POINTS = Points((-1, 0, 1, 2, 3), (1, 0, 1, 4, (19, 2)), (1, 2, 1, 1, (1, 2)))
PROGRAM = Program("a = x >> 2\nb = a * a\nc = b - 3")
TABLED = Program("table t 1 -2 3 7\na = x & 2\nb = t[a]")
FRAME = Frame((-1, 2), (1, 16), 5)
HALF = [1, 2]

# Calls whose answers are described wholly, with lists for tuples wherever a row or a ratio is passed.
CALLS = [
    (ratios.told, ([4, 6], "what")), (ratios.plus, (HALF, [1, 3])), (ratios.minus, (1, HALF)), (ratios.times, (HALF, HALF)),
    (ratios.share, (HALF, 3)),
    (ratios.lower, (HALF, 1)), (ratios.floor_of, ([7, 2],)), (ratios.nearest_whole, ([7, 2],)),
    (ratios.ratio_text, ([7, 2],)),
    (polys.divided, (CUBIC, Poly((1, 2)))), (polys.common, (CUBIC, CUBIC)), (polys.simple_parts, (CUBIC * CUBIC,)),
    (polys.poly_text, (CUBIC,)),
    (corners.corners, (CUBIC, [-1, 1], HALF)), (corners.halved, ([1, HALF, 3],)),
    (signs.count_zeros, (CUBIC, [-3, 1], [3, 1])),
    (signs.zeros, (CUBIC, [-3, 1], [3, 1], 5)), (rows.number_at, (exp_row(), 4)), (rows.terms_of, (exp_row(),)),
    (functions.sums, (EXP, 4)),
    (functions.tail, (EXP, [-1, 2], HALF, 4)), (functions.least_terms, (EXP, [-1, 2], HALF, 20)),
    (functions.value, (RUNGE, HALF, 5)),
    (intervalfits.one_less, (CUBIC, [-1, 1], HALF)), (pointfits.error_of, (POINTS, CUBIC)),
    (pointfits.barred, (POINTS, [0, 1], ((0, (1, 2)),))),
    (pointfits.bound_of, (POINTS, [0, 1], [1, HALF], HALF, ())), (runs.run_error, (POINTS, 1, [0, 4])),
    (runs.error_steps, (POINTS, 1)),
    (quotients.error_on, (POINTS, CUBIC, Poly((9, 1)))), (quotients.frontier, (POINTS, 2, HALF)),
    (grids.on_grid, (CUBIC, [HALF, HALF, 1, 1])),
    (grids.grid_poly, ([1, 2], [HALF, HALF])), (grids.nearest_row, (CUBIC, [HALF, HALF, 1, 1])),
    (grids.all_on_grid, (POINTS, [HALF, HALF], [3, 1])),
    (grids.best_on_grid, (POINTS, [HALF, HALF])), (grids.fewest_bits, (POINTS, 2, [3, 1])), (programs.shape, (PROGRAM,)),
    (programs.alike, (PROGRAM, PROGRAM)),
    (programs.never_falls, (PROGRAM,)), (programs.never_negative, (PROGRAM,)), (programs.greatest, (PROGRAM, 99)),
    (programs.least, (TABLED, 99)),
    (programs.fits, (PROGRAM, 99, 5)), (programs.least_word, (PROGRAM, 99)), (programs.alike_below, (PROGRAM, TABLED, 99)),
    (programs.ideal, (PROGRAM,)),
    (programs.drifts, (PROGRAM, 99)), (programs.greatest_error, (PROGRAM, RUNGE, FRAME, 40)),
    (makers.rounding, (PROGRAM, CUBIC, FRAME, 4, 5)),
    (makers.hardest, (CUBIC, FRAME, 4, 5, 5)), (makers.kept_row, (CUBIC, FRAME, 4, 5)),
]

# Calls whose answers are free in parts, and what judges them, with the place of the answer among its arguments.
JUDGED = [
    (signs.never_below, (CUBIC + 9, [-2, 1], HALF), signs.is_split, ()),
    (errors_of.within, (CUBIC, BENT, [-1, 1], HALF, [9, 1], 5), errors_of.shows, "paper"),
    (errors_of.within, (CUBIC, EXP, [-1, 1], HALF, [9, 1], 5), errors_of.shows, "paper"),
    (pointfits.nearest, (POINTS, [0, 1]), pointfits.is_nearest, ()),
    (errors_of.within_share, (Poly((1,)), EXP, [-1, 2], HALF, [9, 10], 5), errors_of.shows_share, "paper"),
    (pointfits.reach, (POINTS, [0, 1], [1, HALF], [5, 1]), pointfits.is_reach, ()),
    (pointfits.reach, (POINTS, [0, 1], [1, HALF], HALF), pointfits.is_reach, ()),
    (runs.joined, (POINTS, [HALF], 2, 1), runs.is_joined, ()),
    (cuts.least_pieces, (EXP, 1, [1, 50], [-1, [-1, 2], 0, HALF, 1], 20), cuts.are_cuts, ()),
    (cuts.least_pieces, (BENT, 1, [1, 50], [-1, [-1, 2], 0, HALF, 1], 20), cuts.are_cuts, ()),
    (quotients.possible, (POINTS, 1, 1, [5, 1]), quotients.is_fit, ()),
    (quotients.possible, (POINTS, 0, 1, [0, 1]), quotients.is_bars, ()),
    (grids.ranges, (POINTS, [HALF, HALF], [3, 1]), grids.are_ranges, ()),
    (makers.least_table, (EXP, FRAME, 4, [9, 1], 9), makers.is_table, ()),
    (makers.least_lines, (EXP, FRAME, 4, 6, [1, 1], 9), makers.is_lines, ()),
    (makers.least_shift, (EXP, FRAME, 4, 1, [1, 1], 9), makers.is_shift, ()),
    (makers.least_shift, (EXP, FRAME, 4, 0, HALF, 9), makers.is_shift, ()),
    (makers.least_table, (EXP, FRAME, 4, [1, 8], 9), makers.is_table, ()),
    (makers.least_kept, (CUBIC, CUBIC, FRAME, 4, [3, 1], 9, 9), makers.is_kept, ()),
    (makers.least_kept, (CUBIC, EXP, FRAME, 4, [3, 1], 9, 9), makers.is_kept, ()),
    (quotients.quotient_within, (CUBIC, Poly((5, 1)), EXP, [-1, 1], HALF, [9, 1], 5), quotients.shows_quotient, "paper"),
    (intervalfits.enclosed, (EXP, [0, 1], [-1, 1], HALF, 10), intervalfits.is_enclosed, "bits"),
    (intervalfits.enclosed_share, (EXP, [0, 1], [-1, 1], HALF, 10), intervalfits.is_enclosed_share, "bits"),
]


def content(value):
    """A value as plain tuples, all that it holds with it."""
    if isinstance(value, (tuple, list)):
        return (type(value).__name__, *[content(item) for item in value])
    if isinstance(value, dict):
        return tuple((key, content(item)) for key, item in value.items())
    if hasattr(value, "__dict__") and type(value).__module__.startswith("nearcurves"):
        return (type(value).__name__, *[(name, content(item)) for name, item in vars(value).items()])
    return value


class TestCalls(Asking):
    def test_equal_calls_tell_equal_things_and_change_no_arguments(self):
        for function, arguments in CALLS:
            ahead = content(arguments)
            told = function(*copy.deepcopy(arguments))
            self.assertEqual(content(function(*arguments)), content(told), function)
            self.assertEqual(content(function(*arguments)), content(told), function)
            self.assertEqual(content(arguments), ahead, function)

    def test_lists_may_stand_for_tuples(self):
        def turned(value):
            return tuple(turned(item) for item in value) if isinstance(value, list) else value
        for function, arguments in CALLS:
            self.assertEqual(content(function(*map(turned, arguments))), content(function(*arguments)), function)

    def test_what_was_told_is_passed_back(self):
        for function, arguments, judge, kind in JUDGED:
            ahead = content(arguments)
            told = function(*arguments)
            kept = content(told)
            asked = {
                (): (*arguments, told), "bits": (*arguments[:-1], told),
                "paper": (getattr(told, "paper", None), *arguments[:-1]),
            }[kind]
            self.assertIs(judge(*asked), True, (function, arguments))
            self.assertIs(judge(*copy.deepcopy(asked)), True)
            self.assertEqual((content(told), content(arguments)), (kept, ahead))
        greatest = errors_of.enclosed_error(CUBIC, EXP, -1, (1, 2), 20)
        self.assertTrue(errors_of.shows(greatest.paper, CUBIC, EXP, -1, (1, 2), greatest.most))
        self.assertEqual(polys.poly_of(polys.poly_text(CUBIC)), CUBIC)
        table = makers.least_table(EXP, FRAME, 4, 9, 9)
        self.assertEqual(makers.rounding(makers.program_of(table, 4), EXP, FRAME, 4, 9).unsure, ())
        again = Desk(Desk("poly a = 1/3 + x\nprogram b\ny = x >> 3\nend").lines())
        self.assertEqual(again.lines(), "poly a = 1/3 + x\nprogram b\ny = x >> 3\nend\n")
        self.assertIsNone(programs.alike(again.get("b"), Program(again.get("b").text)))

    def test_lists_that_are_changed_afterwards_change_nothing(self):
        numbers, knots, low, ends = [1, [2, 4], 3], [0, [1, 2], 1], [1, 2], [[0, 1], 1, [3, 2]]
        poly, frame = Poly(numbers), Frame(low, [1, 3], 4)
        pieces, parts = Pieces(knots, [Poly((1,)), Poly((1,))]), [[Poly((1,)), sin_row()]]
        mixed, points, row = Mixed(Poly(()), parts), Points(ends, numbers, numbers), Row(low, Poly((1,)), Poly((1, 1)), 1,
            0)
        table = makers.Table(1, numbers, None)
        things = (poly, frame, pieces, mixed, points, row, table)
        kept = content((things[:-1], table.entries[0]))
        for value in (numbers, knots, low, ends, parts):
            value.append(7)
            value[0] = 9
        numbers[1].append(5)
        self.assertEqual(content((things[:-1], table.entries[0])), kept)
        self.assertEqual(len(table.entries), 3)
        wholes, shifts, steps = [3, 2, 1], [1, 4, 4], [[1, 2], 1]
        program, paper = makers.horner(wholes, shifts), grids.ranges(POINTS, steps, 3)
        told = program.at(9)
        wholes[0] = steps[0][1] = 99
        self.assertEqual(program.at(9), told)
        self.assertTrue(grids.are_ranges(POINTS, [(1, 2), 1], 3, paper))

    def test_arguments_that_may_be_left_out_or_passed_by_name(self):
        self.assertEqual(corners.corners(CUBIC, 0, 1), corners.corners(CUBIC, 0, 1, degree=None))
        self.assertEqual(corners.corners(CUBIC, 0, 1, 5), corners.corners(CUBIC, 0, 1, degree=5))
        self.assertEqual(content(Points((0, 1), (2, 3))), content(Points((0, 1), (2, 3), weights=None)))
        self.assertEqual(content(Points((0, 1), (2, 3), [4, 5])), content(Points((0, 1), (2, 3), weights=(4, 5))))
        self.assertEqual(Desk().lines(), Desk(text="").lines())
        self.assertEqual(Desk("poly a = x").lines(), Desk(text="poly a = x").lines())

    def test_objects_are_equal_only_where_it_is_told(self):
        self.assertEqual(Poly((1, 2)), Poly(([2, 2], (4, 2), 0)))
        self.assertNotEqual(Poly((1,)), 1)
        for make in (
            lambda: exp_row(), lambda: Mixed(Poly(()), ()), lambda: Quotient(Poly((1,)), Poly((1,))),
            lambda: Pieces((0, 1), (Poly((1,)),)), lambda: Points((0,), (1,)),
            lambda: Program("y = x"), lambda: Frame(0, 1, 0), lambda: programs.Peak(1, 2), lambda: grids.OnGrid((1, 1), ()),
            lambda: makers.NoTable(1), lambda: programs.Fine(), Desk,
        ):
            self.assertFalse(make() == make())


class TestInterface(Asking):
    def test_a_desk_alone_changes(self):
        # Attributes are assigned in __init__ alone, but at a desk and at what only helps to work things out.
        helpers = {"Desk", "Level", "ItemReader", "Parsed", "Promise", "Peaks", "Level", "Search", "System", "Heights",
            "Errors", "Turns", "Lattice"}
        public = {
            name for module in (
                corners, cuts, errors_of, functions, grids, intervalfits, makers, pointfits, polys, programs, quotients,
                ratios, rows, runs, signs,
            ) for name, thing in vars(module).items() if isinstance(thing, type) and thing.__module__ == module.__name__
        } - helpers
        self.assertIn("Poly", public)
        for path in sorted(PACKAGE.glob("*.py")):
            for node in ast.walk(ast.parse(path.read_text(encoding="utf-8"))):
                if isinstance(node, ast.ClassDef) and node.name in public:
                    for method in node.body:
                        if isinstance(method, ast.FunctionDef) and method.name != "__init__":
                            stored = [item for item in ast.walk(method) if isinstance(item,
                                ast.Attribute) and isinstance(item.ctx, ast.Store)]
                            self.assertEqual(stored, [], (node.name, method.name))

    def test_nothing_beyond_python_alone(self):
        for path in sorted(PACKAGE.glob("*.py")):
            for node in ast.walk(ast.parse(path.read_text(encoding="utf-8"))):
                if isinstance(node, ast.ImportFrom):
                    self.assertIn(node.module.partition(".")[0],
                        ("nearcurves", "math", "heapq", "itertools", "collections"))
        self.assertEqual(desk.Desk.__module__, "nearcurves.desk")


if __name__ == "__main__":
    unittest.main()
