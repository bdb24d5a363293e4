"""A desk: promises that are kept, edits, attempts and trials."""

import unittest
from random import Random

from checking import below_holds, value_near, worth
from helping import Asking, fraction

from nearcurves import desk as desk_module
from nearcurves.desk import Desk
from nearcurves.errors import (
    BadInterval, BadLine, BadName, BadNumber, BadText, CurveError, NoName, NotKept, NothingToRedo, NothingToUndo, Pole,
    TakenName, TooLarge, TooMany,
    TooWide, Unlike,
)
from nearcurves.errors_of import Beyond, Near
from nearcurves.functions import Quotient
from nearcurves.polys import Poly
from nearcurves.programs import Peak, Program, Spill
from nearcurves.signs import Below

TEXT = """poly one = 1 + x
poly square = x^2
poly taylor = 1 + x + 1/2*x^2 + 1/6*x^3
quotient runge = 1 over 1 + x^2
program half
a = x >> 1
end
program quarter
a = x >> 1
b = a >> 1
end
program fourth
y = x >> 2
end
program down
y = 5 - x
end
program parts
table t 1 2
y = t[x]
end
program deep
a = x >> 6
b = a & 5
end
"""

KEPT = [
    "square at least 0 from -5 to 5", "one at least -4 from -5 to 5", "one near square by 5/4 from 0 to 1",
    "one near runge by 1 from 0 to 1/2",
    "taylor near exp by 1/10 from -1 to 1 gap 30", "quarter alike fourth", "fourth alike quarter", "half never falls",
    "half fits 8 below 256",
    "half fits 64 below 18446744073709551616", "half near one by 3/2 below 100 frame 0 1/2 0", "parts fits 3 below 2",
    "down fits 4 below 13",
    "square at least -1/1000000 from 0 to 1", "one near one by 0 from 0 to 1", "half alike half",
]


class Thrown(Exception):
    pass


def full_state(desk):
    """All that a desk tells, with what can be undone and done again."""
    rows = [(desk.lines(), desk.names(), desk.promises())]
    many = 0
    try:
        while True:
            desk.undo()
            many += 1
            rows.append((desk.lines(), desk.promises()))
    except NothingToUndo:
        pass
    for _ in range(many):
        desk.redo()
    later = 0
    try:
        while True:
            desk.redo()
            later += 1
            rows.append((desk.lines(), desk.promises()))
    except NothingToRedo:
        pass
    for _ in range(later):
        desk.undo()
    return rows


class DeskTests(Asking):
    def raised(self, kind, function, *arguments, **fields):
        with self.assertRaises(kind) as caught:
            function(*arguments)
        self.assertIs(type(caught.exception), kind)
        for name, value in fields.items():
            self.assertEqual(getattr(caught.exception, name), value)
        return caught.exception

    def unchanged(self, desk, kind, function, *arguments, **fields):
        ahead = full_state(desk)
        wrong = self.raised(kind, function, *arguments, **fields)
        self.assertEqual(full_state(desk), ahead)
        return wrong


class TestPromises(DeskTests):
    def test_kept_ones(self):
        desk = Desk(TEXT)
        for promise in KEPT:
            self.assertEqual(desk.kept(promise), (True, None), promise)
            self.assertIsNone(desk.keep(promise))
        self.assertEqual(desk.promises(), tuple(KEPT))
        self.assertEqual(desk.broken(), ())

    def test_at_least(self):
        desk = Desk(TEXT)
        for promise, low, high in (("square at least 1/100 from -5 to 5", -5, 5),
            ("one at least 0 from -2 to 7/3", -2, (7, 3)), ("one at least 3 from 0 to 2", 0, 2)):
            is_kept, witness = desk.kept(promise)
            self.assertIs(is_kept, False)
            self.assertIsInstance(witness, Below)
            words = promise.split()
            number = tuple(map(int, words[3].split("/"))) if "/" in words[3] else int(words[3])
            self.assertTrue(below_holds(desk.get(words[0]) - number, low, high, witness))
        self.assertEqual(desk.kept("one at least 1 from 0 to 2"), (True, None))
        self.raised(BadInterval, desk.kept, "one at least 1 from 2/4 to 1/2", low=(1, 2), high=(1, 2))
        self.raised(BadInterval, desk.keep, "one at least 1 from 3 to -2", low=(3, 1), high=(-2, 1))

    def test_near(self):
        desk = Desk(TEXT + "quotient pole = 1 over x\npoly low = 9/10")
        # The greatest error of one against the square on [0, 1] is 5/4, at 1/2.
        self.assertEqual(desk.kept("one near square by 5/4 from 0 to 1"), (True, None))
        is_kept, witness = desk.kept("one near square by 1249/1000 from 0 to 1")
        self.assertIs(is_kept, False)
        self.assertIsInstance(witness, Beyond)
        point = fraction(witness.point)
        self.assertGreaterEqual(abs(worth(Poly((1, 1)), point) - point * point), fraction(witness.error))
        self.assertGreater(fraction(witness.error), fraction((1249, 1000)))
        is_kept, witness = desk.kept("low near runge by 1/20 from 0 to 1")
        self.assertIsInstance(witness, Beyond)
        self.assertGreaterEqual(abs(value_near(desk.get("runge"), fraction(witness.point))[0] - fraction((9, 10))),
            fraction(witness.error))
        self.assertEqual(desk.kept("low near runge by 2/5 from 0 to 1"), (True, None))
        self.raised(BadInterval, desk.kept, "one near pole by -1 from 1 to -1", low=(1, 1), high=(-1, 1))
        self.raised(Pole, desk.kept, "one near pole by -1 from -1 to 1")
        self.raised(BadNumber, desk.kept, "one near pole by -2/4 from 1 to 2", what="e", number=(-1, 2))

    def test_near_rows(self):
        desk = Desk("poly line = x\npoly zero = 0\npoly cosine = 1 - 1/2*x^2\npoly e1 = 1 + x\npoly under = x - 1/2*x^2")
        for word, poly, greatest in (("exp", "e1", 0.72), ("sin", "line", 0.16), ("cos", "cosine", 0.05),
            ("atan", "line", 0.4), ("log", "line", 0.4)):
            end = "1/2" if word in ("atan", "log") else "1"
            self.assertEqual(desk.kept(f"{poly} near {word} by 3/4 from 0 to {end} gap 20"), (True, None))
            is_kept, witness = desk.kept(f"zero near {word} by 1/8 from 0 to {end} gap 20")
            self.assertFalse(is_kept)
            self.assertIsInstance(witness, Beyond)
        # On both sides of 0 the rows are near to these alone.
        for word, poly in (("exp", "e1"), ("sin", "line"), ("cos", "cosine"), ("atan", "line"), ("log", "under")):
            for other in ("e1", "line", "cosine", "under"):
                e = "1/12" if word == "exp" else "1/50"
                is_kept = desk.kept(f"{other} near {word} by {e} from -1/3 to 1/3 gap 20")[0]
                self.assertIs(is_kept, other == poly, (word, other))
        self.assertIs(desk.kept("line near sin by 1/100 from -1/3 to 1/3 gap 20")[0], True)
        self.assertIs(desk.kept("line near atan by 1/100 from -1/3 to 1/3 gap 20")[0], False)
        self.raised(TooWide, desk.kept, "line near atan by 1 from 0 to 3/4 gap 20")
        self.raised(TooWide, desk.kept, "line near log by 1 from 0 to 1 gap 20")
        self.raised(BadNumber, desk.kept, "line near log by -1 from 0 to 1 gap 20", what="e", number=(-1, 1))
        self.raised(BadInterval, desk.kept, "line near log by -1 from 1 to 0 gap 20")
        is_kept, witness = desk.kept("e1 near exp by 3/4 from 0 to 1 gap 0")
        self.assertTrue(is_kept or isinstance(witness, (Near, Beyond)))
        # The error of 1 + x on [0, 1] is e - 2, which is 0.7182818..; with no bits it is too near to tell.
        is_kept, witness = desk.kept("e1 near exp by 7182/10000 from 0 to 1 gap 1")
        self.assertFalse(is_kept)
        self.assertIsInstance(witness, Near)
        is_kept, witness = desk.kept("e1 near exp by 7182/10000 from 0 to 1 gap 40")
        self.assertIsInstance(witness, Beyond)

    def test_programs(self):
        desk = Desk(TEXT)
        self.assertEqual(desk.kept("half alike quarter"), (False, 2))
        self.assertEqual(desk.kept("down alike half"), (False, 0))
        self.assertEqual(desk.kept("down never falls"), (False, 0))
        self.raised(Unlike, desk.kept, "parts alike deep", what="table")
        self.raised(TooMany, desk.kept, "deep alike parts", what="classes", limit=1024)
        self.raised(Unlike, desk.kept, "parts never falls", what="table")
        is_kept, witness = desk.kept("half fits 8 below 257")
        self.assertIsInstance(witness, Spill)
        self.assertEqual((is_kept, witness.name, witness.x), (False, "a", 256))
        self.assertEqual(vars(desk.kept("quarter fits 3 below 100")[1]), {"name": "a", "x": 8})
        self.raised(BadNumber, desk.kept, "half fits 0 below 0", what="word", number=0)
        self.raised(BadNumber, desk.kept, "half fits 201 below 0", what="word", number=201)
        self.raised(BadNumber, desk.kept, "half fits 200 below 0", what="many", number=0)
        self.raised(TooLarge, desk.kept, "half fits 200 below 18446744073709551617", what="many", number=2 ** 64 + 1,
            limit=2 ** 64)
        self.raised(TooLarge, desk.kept, "parts fits 200 below 1025", what="many", number=1025, limit=1024)
        self.raised(TooWide, desk.kept, "parts fits 200 below 3")
        self.raised(TooMany, desk.kept, "deep fits 200 below 3", what="classes", limit=1024)

    def test_frames(self):
        desk = Desk(TEXT + "quotient pole = 1 over x")
        is_kept, witness = desk.kept("half near one by 1/2 below 100 frame 0 1/2 0")
        self.assertIsInstance(witness, Peak)
        self.assertEqual((is_kept, witness.x, witness.value), (False, 1, (3, 2)))
        self.assertEqual(desk.kept("half near one by 3/2 below 100 frame 0 1/2 0"), (True, None))
        self.assertEqual(desk.kept("half near one by 149/100 below 100 frame 0 1/2 0")[0], False)
        self.assertEqual(desk.kept("half near one by -1 below 1 frame -1 1/2 0")[1].value, (0, 1))
        self.raised(BadNumber, desk.kept, "half near pole by 1 below 0 frame 0 -2/6 3", what="step", number=(-1, 3))
        self.raised(BadNumber, desk.kept, "half near pole by 1 below 0 frame 0 0 3", what="step", number=(0, 1))
        self.raised(BadNumber, desk.kept, "half near pole by 1 below 0 frame 0 1 3", what="many", number=0)
        self.raised(TooLarge, desk.kept, "parts near pole by 1 below 1025 frame 0 1 3", limit=1024)
        self.raised(TooWide, desk.kept, "parts near pole by 1 below 3 frame 0 1 3")
        self.raised(TooMany, desk.kept, "deep near pole by 1 below 3 frame 0 1 3")
        self.raised(Pole, desk.kept, "half near pole by 1 below 3 frame -1 1 3")
        self.assertEqual(desk.kept("half near pole by 1 below 3 frame 1 1 3"), (True, None))

    def test_keep_at_once_and_everywhere(self):
        desk = Desk(TEXT)
        desk.keep("half never falls")
        for promise, kind in (
            ("half never fall", BadText), ("other never falls", NoName), ("parts never falls", Unlike),
            ("one at least 1 from 1 to 0", BadInterval),
        ):
            self.unchanged(desk, kind, desk.keep, promise)
            self.unchanged(desk, kind, desk.kept, promise)
            self.unchanged(desk, kind, desk.attempt, lambda tried: tried.keep(promise))
            self.unchanged(desk, kind, desk.trial, lambda tried: tried.keep(promise))
        wrong = self.unchanged(desk, NotKept, desk.keep, "down never falls", promise="down never falls", witness=0)
        self.assertIsInstance(wrong, CurveError)
        with desk as tried:
            tried.keep("down never falls")
            self.assertEqual(tried.promises(), ("half never falls", "down never falls"))
            self.assertEqual(tried.broken(), (("down never falls", 0),))

    def test_promises_are_not_made_twice(self):
        desk = Desk(TEXT)
        for promise in ("half never falls", "half never falls", " half  never falls", "half never falls"):
            desk.keep(promise)
        self.assertEqual(desk.promises(), ("half never falls", " half  never falls"))
        # Each of the calls was an edit.
        for _ in range(4):
            desk.undo()
        self.raised(NothingToUndo, desk.undo)


class TestEdits(DeskTests):
    def test_put(self):
        desk = Desk("poly a = 1\npoly b = 2\npoly c = 3")
        self.assertIsNone(desk.put("quotient b = 1 over x\npoly d = 4\n\npoly a = x"))
        self.assertEqual(desk.lines(), "poly a = x\nquotient b = 1 over x\npoly c = 3\npoly d = 4\n")
        self.assertEqual(desk.names(), ("a", "b", "c", "d"))
        self.assertIsInstance(desk.get("b"), Quotient)
        desk.put("")
        desk.put("program c\ny = x\nend")
        self.assertIsInstance(desk.get("c"), Program)
        self.assertEqual(desk.names(), ("a", "b", "c", "d"))
        for _ in range(3):
            desk.undo()
        self.assertEqual(desk.lines(), "poly a = 1\npoly b = 2\npoly c = 3\n")
        self.unchanged(desk, BadLine, desk.put, "poly a = 2\npoly a = 3", line=2, column=6)
        self.unchanged(desk, BadLine, desk.put, None, line=0, column=0)

    def test_drop_and_rename(self):
        desk = Desk(TEXT)
        for promise in ("quarter alike fourth", "half never falls", " fourth  alike quarter ",
            "half near one by 9 below 9 frame 0 1 0", "half fits 9 below 9"):
            desk.keep(promise)
        self.assertIsNone(desk.rename("fourth", "quarters"))
        self.assertEqual(desk.promises()[:3], ("quarter alike quarters", "half never falls", " quarters  alike quarter "))
        self.assertEqual(desk.names(),
            ("one", "square", "taylor", "runge", "half", "quarter", "quarters", "down", "parts", "deep"))
        desk.rename("half", "h")
        self.assertEqual(desk.promises(),
            ("quarter alike quarters", "h never falls", " quarters  alike quarter ", "h near one by 9 below 9 frame 0 1 0",
                "h fits 9 below 9"))
        desk.rename("one", "half")
        self.assertEqual(desk.promises()[3], "h near half by 9 below 9 frame 0 1 0")
        self.assertIsNone(desk.drop("quarter"))
        self.assertEqual(desk.promises(), ("h never falls", "h near half by 9 below 9 frame 0 1 0", "h fits 9 below 9"))
        desk.drop("half")
        self.assertEqual(desk.promises(), ("h never falls", "h fits 9 below 9"))
        desk.undo()
        self.assertEqual(desk.promises(), ("h never falls", "h near half by 9 below 9 frame 0 1 0", "h fits 9 below 9"))
        desk.undo()
        self.assertEqual(len(desk.promises()), 5)
        self.assertIn("quarter", desk.names())

    def test_names_within_words_stay(self):
        desk = Desk("program e\ny = x\nend\nprogram b\ny = x\nend")
        desk.keep("e fits 9 below 8")
        desk.keep("e alike b")
        desk.keep("b alike e")
        desk.keep("e alike e")
        desk.rename("e", "ab")
        self.assertEqual(desk.promises(), ("ab fits 9 below 8", "ab alike b", "b alike ab", "ab alike ab"))
        desk.rename("b", "e")
        self.assertEqual(desk.promises(), ("ab fits 9 below 8", "ab alike e", "e alike ab", "ab alike ab"))

    def test_errors(self):
        desk = Desk("poly a = 1\npoly b = 2")
        desk.keep("a at least 1 from 0 to 1")
        for name in ("c", "", None, 3, ("a",), ["a"], b"a", {}, Poly((1,)), "a ", "A"):
            for function in (desk.drop, desk.get):
                self.unchanged(desk, NoName, function, name, name=name)
            self.unchanged(desk, NoName, desk.rename, name, "c", name=name)
            self.unchanged(desk, NoName, desk.rename, name, "b", name=name)
        for new in ("a", "b"):
            self.unchanged(desk, TakenName, desk.rename, "a", new, name=new)
        self.unchanged(desk, BadName, desk.rename, "c", "end", name="end")
        for promise in ("a at least 1 from 0 to 2", "", None, 3, ("a",), ["a"], " a at least 1 from 0 to 1", {}):
            self.unchanged(desk, NoName, desk.release, promise, name=promise)
        self.assertIsNone(desk.release("a at least 1 from 0 to 1"))
        self.assertEqual(desk.promises(), ())

    def test_edits_behind_which_a_promise_is_not_kept(self):
        desk = Desk(TEXT)
        desk.keep("quarter alike fourth")
        desk.keep("half never falls")
        desk.keep("one at least -4 from -5 to 5")
        self.unchanged(desk, NotKept, desk.put, "program half\ny = x & 3\nend", promise="half never falls", witness=7)
        self.unchanged(desk, NotKept, desk.put, "poly one = x\npoly other = 3", promise="one at least -4 from -5 to 5")
        # The first one in order counts, whether it can not be asked or is not kept.
        self.unchanged(desk, NotKept, desk.put, "program fourth\ny = 0\nend\npoly half = 1", promise="quarter alike fourth",
            witness=4)
        self.unchanged(desk, NoName, desk.put, "poly fourth = 0\nprogram half\ny = x & 3\nend", name="fourth")
        self.unchanged(desk, NoName, desk.put, "quotient one = 1 over 2", name="one")
        self.unchanged(desk, Unlike, desk.put, "program half\ntable t 1 2\ny = t[x]\nend", what="table")
        self.unchanged(desk, TooMany, desk.put, "program half\na = x >> 11\nend", what="classes")
        desk.put("program half\ny = x & 0\nend")
        self.assertEqual(desk.get("half").text, "y = x & 0\n")

    def test_undo_and_redo(self):
        desk = Desk("poly a = 1")
        self.unchanged(desk, NothingToUndo, desk.undo)
        self.unchanged(desk, NothingToRedo, desk.redo)
        states = [(desk.lines(), desk.promises())]
        for edit in (
            lambda: desk.put("poly b = 2"), lambda: desk.keep("a at least 1 from 0 to 1"), lambda: desk.rename("a", "c"),
            lambda: desk.put(""), lambda: desk.drop("b"),
            lambda: desk.release("c at least 1 from 0 to 1"), lambda: desk.drop("c"),
        ):
            self.assertIsNone(edit())
            states.append((desk.lines(), desk.promises()))
        for state in states[-2::-1]:
            self.assertIsNone(desk.undo())
            self.assertEqual((desk.lines(), desk.promises()), state)
        self.raised(NothingToUndo, desk.undo)
        for state in states[1:]:
            self.assertIsNone(desk.redo())
            self.assertEqual((desk.lines(), desk.promises()), state)
        self.raised(NothingToRedo, desk.redo)
        desk.undo()
        desk.undo()
        self.unchanged(desk, NoName, desk.drop, "other")
        self.unchanged(desk, NoName, desk.attempt, lambda tried: tried.drop("other"))
        desk.trial(lambda tried: tried.put("poly z = 1"))
        desk.redo()
        desk.undo()
        desk.put("")
        self.raised(NothingToRedo, desk.redo)
        desk.undo()
        self.assertEqual((desk.lines(), desk.promises()), states[5])


class TestAttempts(DeskTests):
    def setUp(self):
        self.desk = Desk("program a\ny = x >> 1\nend\nprogram b\ny = x >> 1\nend")
        self.desk.keep("a alike b")

    def both(self, tried):
        self.assertIs(tried, self.desk)
        tried.put("program a\ny = x >> 2\nend")
        self.assertEqual(tried.broken(), (("a alike b", 2),))
        self.assertEqual(tried.kept("a alike b"), (False, 2))
        tried.put("program b\ny = x >> 2\nend")
        return "told"

    def test_an_attempt_is_one_edit(self):
        ahead = self.desk.lines()
        self.assertEqual(self.desk.attempt(self.both), "told")
        behind = self.desk.lines()
        self.assertNotEqual(ahead, behind)
        self.desk.undo()
        self.assertEqual(self.desk.lines(), ahead)
        self.desk.redo()
        self.assertEqual(self.desk.lines(), behind)
        self.assertIsNone(self.desk.attempt(lambda tried: None))
        self.desk.undo()
        self.assertEqual(self.desk.lines(), behind)
        self.desk.undo()
        self.assertEqual(self.desk.lines(), ahead)
        self.desk.attempt(lambda tried: None)
        self.raised(NothingToRedo, self.desk.redo)

    def test_an_attempt_that_raises(self):
        def action(tried):
            tried.put("poly c = 1")
            tried.undo()
            tried.put("poly d = 1")
            raise Thrown("no")
        self.desk.put("poly z = 1")
        self.desk.undo()
        for kind, function in (
            (Thrown, action), (NoName, lambda tried: tried.drop("other")),
            (NotKept, lambda tried: tried.put("program a\ny = 7\nend")),
            (NoName, lambda tried: tried.put("poly a = 1")), (KeyboardInterrupt, self.interrupted),
            (NothingToUndo, lambda tried: tried.undo()),
            (NothingToRedo, lambda tried: tried.redo()), (ZeroDivisionError, lambda tried: 1 // 0),
        ):
            self.unchanged(self.desk, kind, self.desk.attempt, function)
        self.unchanged(self.desk, NotKept, self.desk.attempt, lambda tried: tried.put("program a\ny = 7\nend"),
            promise="a alike b", witness=0)

    def interrupted(self, tried):
        tried.put("poly c = 1")
        raise KeyboardInterrupt()

    def test_undo_within_attempts_knows_its_own_edits(self):
        def action(tried):
            self.raised(NothingToUndo, tried.undo)
            tried.put("poly c = 1")
            tried.put("poly d = 1")
            tried.undo()
            self.raised(NothingToUndo, lambda: tried.attempt(lambda again: again.undo()))
            tried.redo()
            tried.undo()
            tried.attempt(lambda again: again.put("poly e = 1"))
            self.raised(NothingToRedo, tried.redo)
            self.assertEqual(tried.names(), ("a", "b", "c", "e"))
            tried.undo()
            self.assertEqual(tried.names(), ("a", "b", "c"))
            tried.redo()
        self.desk.attempt(action)
        self.assertEqual(self.desk.names(), ("a", "b", "c", "e"))
        self.desk.undo()
        self.assertEqual(self.desk.names(), ("a", "b"))
        self.desk.undo()
        self.assertEqual(self.desk.promises(), ())

    def test_attempts_within_attempts(self):
        def inner(tried):
            tried.put("program a\ny = 7\nend")

        def outer(tried):
            tried.attempt(inner)
            self.assertEqual(tried.broken(), (("a alike b", 0),))
            self.raised(Thrown, tried.attempt, self.thrown)
            self.assertEqual(tried.get("a").at(0), 7)
            tried.put("program b\ny = 7\nend")
        self.desk.attempt(outer)
        self.assertEqual(self.desk.get("b").at(0), 7)
        self.desk.undo()
        self.unchanged(self.desk, NotKept, self.desk.attempt, lambda tried: tried.attempt(inner))
        self.unchanged(self.desk, Thrown, self.desk.attempt, lambda tried: tried.attempt(self.thrown))

    def thrown(self, tried):
        tried.put("poly c = 1\npoly a = 2")
        raise Thrown()

    def test_trials(self):
        desk = self.desk
        desk.put("poly z = 1")
        desk.undo()
        ahead = full_state(desk)
        self.assertEqual(desk.trial(self.both), "told")
        self.assertEqual(full_state(desk), ahead)
        with desk as tried:
            self.assertIs(tried, desk)
            self.raised(NothingToUndo, tried.undo)
            self.raised(NothingToRedo, tried.redo)
            tried.put("program a\ny = 7\nend")
            self.assertEqual(tried.broken(), (("a alike b", 0),))
            self.assertEqual(tried.get("a").at(3), 7)
            # An attempt within a trial is no outermost one.
            tried.attempt(lambda again: again.put("program b\ny = 8\nend"))
            self.assertEqual(tried.broken(), (("a alike b", 0),))
            tried.undo()
            tried.undo()
            self.assertEqual(tried.broken(), ())
        self.assertEqual(full_state(desk), ahead)
        for kind in (Thrown, KeyboardInterrupt, NoName):
            with self.assertRaises(kind):
                with desk as tried:
                    tried.drop("a")
                    raise kind("x")
            self.assertEqual(full_state(desk), ahead)
        self.unchanged(desk, Thrown, desk.trial, self.thrown)
        self.unchanged(desk, NoName, desk.trial, lambda tried: tried.drop("q"))

    def test_trials_within_attempts_and_around_them(self):
        def action(tried):
            tried.put("poly c = 1")
            with tried as again:
                again.put("poly d = 1")
                with again as third:
                    third.drop("c")
                self.assertEqual(again.names(), ("a", "b", "c", "d"))
                again.undo()
                self.raised(NothingToUndo, again.undo)
            self.assertEqual(tried.names(), ("a", "b", "c"))
            tried.trial(lambda again: again.drop("a"))
            self.assertEqual(tried.promises(), ("a alike b",))
            tried.undo()
            tried.redo()
        self.desk.attempt(action)
        self.assertEqual(self.desk.names(), ("a", "b", "c"))
        with self.desk as tried:
            tried.attempt(lambda again: again.drop("b"))
            self.raised(Thrown, tried.attempt, self.thrown)
            self.assertEqual(tried.names(), ("a", "c"))
        self.assertEqual(self.desk.names(), ("a", "b", "c"))
        self.desk.undo()
        self.assertEqual(self.desk.names(), ("a", "b"))

    def test_errors_that_are_caught_within(self):
        def action(tried):
            self.raised(BadLine, tried.put, "poly c = ")
            self.raised(BadName, tried.rename, "a", "x")
            self.raised(TakenName, tried.rename, "a", "b")
            self.raised(NoName, tried.release, "b alike a")
            self.raised(Unlike, tried.keep, "d never falls")
        self.desk.put("program d\ntable t 1\ny = t[x]\nend")
        ahead = self.desk.lines()
        self.desk.attempt(action)
        self.assertEqual(self.desk.lines(), ahead)

    def test_broken(self):
        desk = self.desk
        desk.keep("a never falls")
        desk.keep("b never falls")
        with desk as tried:
            tried.put("program a\ny = x & 3\nend")
            self.assertEqual(tried.broken(), (("a alike b", 1), ("a never falls", 7)))
            tried.put("program b\ny = 3 - x\nend")
            self.assertEqual(tried.broken(), (("a alike b", 0), ("a never falls", 7), ("b never falls", 0)))
            tried.put("program b\ntable t 1\ny = 3\nend")
            self.raised(Unlike, tried.broken, what="table")
            tried.put("poly b = 1")
            self.raised(NoName, tried.broken, name="b")
        self.assertEqual(desk.broken(), ())

    def test_by_chance(self):
        # A desk against a plain list of states.
        random = Random(86)
        desk = Desk("poly a = 0")
        past, future, now = [], [], {"a": "0"}
        for step in range(600):
            choice = random.randrange(7)
            name, number = random.choice("abcd"), str(random.randrange(9))
            new = dict(now)
            if choice < 3:
                desk.put(f"poly {name} = {number}")
                new[name] = number
            elif choice == 3 and name in now:
                desk.drop(name)
                del new[name]
            elif choice == 4:
                if past:
                    desk.undo()
                    future.append(now)
                    now = past.pop()
                else:
                    self.raised(NothingToUndo, desk.undo)
            elif choice == 5:
                if future:
                    desk.redo()
                    past.append(now)
                    now = future.pop()
                else:
                    self.raised(NothingToRedo, desk.redo)
            else:
                desk.trial(lambda tried: tried.put(f"poly {name} = {number}"))
            if choice < 3 or (choice == 3 and name in now):
                past.append(now)
                future, now = [], new
            self.assertEqual(desk.lines(), "".join(f"poly {key} = {value}\n" for key, value in now.items()))


class TestLimits(DeskTests):
    def test_sizes(self):
        lines = [f"poly p{k} = {k} + 1/{k + 1}*x^{k}" for k in range(6)]
        lines += [f"program g{k}\na = x >> 4\nb = a * a\nc = b >> 5\nd = c + {k}\nend" for k in range(6)]
        desk = Desk("\n".join(lines))
        self.assertEqual(len(desk.names()), 12)
        made = [f"p{k} at least 0 from 0 to 100" for k in range(4)] + [f"g{k} never falls" for k in range(4)]
        made += [f"g{k} fits 200 below 18446744073709551616" for k in range(2)] + ["g5 alike g5",
            "g3 near p2 by 1000000 below 1024 frame -1 1/512 30"]
        for promise in made:
            desk.keep(promise)
        self.assertEqual(desk.promises(), tuple(made))
        for k in range(6):
            desk.rename(f"g{k}", f"h{k}")
        self.assertEqual(desk.broken(), ())
        self.assertEqual(Desk(desk.lines()).lines(), desk.lines())

    def test_where_it_is_defined(self):
        self.are_defined_in(desk_module, "Desk")
        for name in (
            "put", "drop", "rename", "keep", "release", "attempt", "trial", "undo", "redo", "lines", "names", "promises",
            "get", "kept", "broken", "__enter__", "__exit__",
        ):
            self.assertIn(name, vars(Desk))
        self.assertNotEqual(Desk(), Desk())


if __name__ == "__main__":
    unittest.main()
