"""Texts of items and of promises at a desk."""

import re
import unittest

from helping import Asking

from nearcurves.desk import Desk
from nearcurves.errors import BadLine, BadName, BadText, CurveError, NoName
from nearcurves.functions import Quotient
from nearcurves.polys import Poly
from nearcurves.programs import Program

BARRED = (
    "poly quotient program end over from to below at least near by alike never falls fits frame gap exp sin cos atan log x table"
).split()

# Wrong lines as the only one of a text, with the column.
WRONG = [
    ("x", 1), ("p", 2), ("pol", 4), ("po x", 3), ("poly", 5), ("polya = 1", 5), ("polynomial a = 1", 5), ("Poly a = 1", 1),
    ("pr", 3), ("programs a", 8),
    ("prig", 3), ("quo a", 4), ("end", 1), ("a = x", 1), ("table t 1", 1), ("poly ", 6), ("poly a", 7), ("poly a ", 8),
    ("poly a =", 9), ("poly a = ", 10),
    ("poly a b = 1", 8), ("poly = 1", 6), ("poly 1 = 1", 6), ("poly A = 1", 6), ("poly a1b2c3d4e = 1", 14),
    ("poly a_ = 1", 7), ("poly a == 1", 9),
    ("poly a = y", 10), ("poly a = 1 +", 13), ("poly a = 1 + + x", 14), ("poly a = 1x", 11), ("poly a = 1 x", 12),
    ("poly a = x^13", 13), ("poly a = 01", 11),
    ("poly a = 1/0", 12), ("poly a = 1;", 11), ("poly a = 1\t", 11), ("\tpoly a = 1", 1), ("poly a = 1 over 2", 12),
    ("poly a = " + "1" * 41, 50),
    ("poly a = x = 1", 12), ("quotient a = 1", 15), ("quotient a = 1 ", 16), ("quotient a = 1 2", 16),
    ("quotient a = 1over 2", 15), ("quotient a = 1 o", 17),
    ("quotient a = 1 ove 2", 19), ("quotient a = 1 over", 20), ("quotient a = 1 over ", 21), ("quotient a = 1 over2", 20),
    ("quotient a = 1 over-2", 20),
    ("quotient a = 1 over y", 21), ("quotient a = 1 over 2 over 3", 23), ("quotient a = 1 over 0", 22),
    ("quotient a = 1 over 0 ", 23), ("quotient a = 1 overt 2", 20),
    ("quotient a = 1 over 0*x + 0", 28), ("quotient a = 1 over x - x", 26), ("quotient a = 1 over 2;", 22),
    ("quotient a 1 over 2", 12), ("quotient a = over 2", 14),
    ("quotient a = 1 / 2 over 3", 16), ("quotient a = 1 * over 3", 18), ("program a =", 11), ("program a b", 11),
    ("program", 8), ("program ", 9), ("program 1", 9),
]

# Wrong lines within "program a" behind a line "s = x".
WRONG_WITHIN = [
    ("end x", 5), ("end;", 4), ("endx", 5), ("poly b = 1", 6), ("program b", 9), ("quotient b = 1 over 2", 10),
    ("s = 1", 1), ("y = z", 5), ("table t 1", 6), ("ed = ", 6),
    ("y = x << 61", 11), ("poly", 5), ("e", 2), ("END", 1),
]


class TestItems(Asking):
    def wrong(self, text, line, column):
        desk = Desk("poly keep1 = x")
        for function in (Desk, desk.put, lambda it: desk.attempt(lambda tried: tried.put(it)),
            lambda it: desk.trial(lambda tried: tried.put(it))):
            with self.assertRaises(BadLine) as caught:
                function(text)
            self.assertEqual((caught.exception.line, caught.exception.column), (line, column), text)
        self.assertEqual(desk.lines(), "poly keep1 = x\n")
        self.assertEqual(desk.names(), ("keep1",))

    def test_wrong_lines(self):
        for line, column in WRONG:
            if line.startswith("program ") and column == len(line) + 1 and line[8:9].isalpha():
                continue
            self.wrong(line, 1, column)
            self.wrong("poly a0 = 1\n\n  \n" + line + "\nend", 4, column)
            self.wrong("program b0\ny = x\nend\n" + line + "\n", 4, column)

    def test_wrong_lines_within_programs(self):
        for line, column in WRONG_WITHIN:
            self.wrong("program a\ns = x\n" + line + "\nend", 3, column)
            self.wrong("poly b = 1\n\nprogram a\n s = x \n \n" + line, 6, column)

    def test_barred_names(self):
        for word in BARRED:
            column = 5 + len(word) + (0 if len(word) == 8 else 1)
            for text in (f"poly {word} = 1", f"poly {word}"):
                self.wrong(text, 1, column)
            self.wrong(f"program {word}", 1, column + 3)
            self.wrong(f"quotient {word} = 1 over 2", 1, column + 4)
            if len(word) < 8:
                self.assertEqual(Desk(f"poly {word}1 = 1").names(), (f"{word}1",))
        # Within programs all but x and table are names of steps.
        program = Desk("program a\nend = x\npoly = end\nexp = poly + end\n end \n").get("a")
        self.assertEqual((program.names, program.at(4)), (("end", "poly", "exp"), 8))

    def test_names_told_twice(self):
        for one in ("poly a = 1", "quotient a = 1 over 2", "program a\ny = x\nend"):
            for other, column in (("poly a = 1", 6), ("quotient a = 1 over 2", 10), ("program a", 9), ("poly a = !", 6),
                ("  poly  a", 9)):
                self.wrong(one + "\n" + other, one.count("\n") + 2, column)
        self.assertEqual(Desk("poly a = 1\npoly ab = 2").names(), ("a", "ab"))

    def test_unended_programs(self):
        for text, line in (
            ("program a", 2), ("program a\n", 2), ("program a\n\n", 3), ("program a\ny = x", 3), ("program a\ny = x\n", 3),
            ("program a\ny = x\n  ", 4),
            ("poly b = 1\nprogram a\ny = x\nend3 = y\n", 5), ("program a\ntable t 1", 3),
        ):
            self.wrong(text, line, 1)
        for text, line in (("program a\nend", 2), ("program a\n\n  end", 3), ("program a\ntable t 1\nend\n", 3),
            ("poly b = 1\nprogram a\nend\n!", 3)):
            self.wrong(text, line, 1)

    def test_what_is_no_string(self):
        for text in (None, 3, b"", ["poly a = 1"], ("",), Poly((1,)), True):
            self.wrong(text, 0, 0)

    def test_right_texts(self):
        text = (
            "\n  poly  one  =  1 - 3/2*x + x^3  \npoly two=-x\n\nquotient three = -1 + x over 1 + x^2\nquotient four=1  over  -x \n"
            "program five\n\n  table t 1  -2\n \n s =  x & 1 \ny=t[ s ]\n\n  end  \n   \nprogram six\nend = 3\nend"
        )
        desk = Desk(text)
        self.assertEqual(desk.names(), ("one", "two", "three", "four", "five", "six"))
        self.assertEqual(desk.get("one"), Poly((1, (-3, 2), 0, 1)))
        self.assertEqual(desk.get("two"), Poly((0, -1)))
        self.assertIsInstance(desk.get("three"), Quotient)
        self.assertEqual((desk.get("four").top, desk.get("four").bottom), (Poly((1,)), Poly((0, -1))))
        self.assertIsInstance(desk.get("five"), Program)
        self.assertEqual(desk.get("five").text, "\n  table t 1  -2\n \n s =  x & 1 \ny=t[ s ]\n\n")
        self.assertEqual([desk.get("five").at(x) for x in range(4)], [1, -2, 1, -2])
        self.assertEqual(
            desk.lines(),
            "poly one = 1 - 3/2*x + x^3\npoly two = -x\nquotient three = -1 + x over 1 + x^2\nquotient four = 1 over -x\n"
            "program five\ntable t 1  -2\ns =  x & 1\ny=t[ s ]\nend\nprogram six\nend = 3\nend\n",
        )
        self.assertEqual(Desk(desk.lines()).lines(), desk.lines())
        self.assertEqual(Desk().lines(), "")
        self.assertEqual(Desk("").names(), ())
        self.assertEqual(Desk(" \n\n").promises(), ())
        self.assertEqual(Desk(text="poly a = 0").lines(), "poly a = 0\n")

    def test_each_beginning_of_a_right_line(self):
        for text in ("poly ab = 1 - 3/2*x^12", "quotient ab = 2*x over -x + 33", "program ab"):
            for end in range(len(text) + 1):
                cut = text[:end]
                try:
                    Desk(cut)
                except BadLine as wrong:
                    expected = (2, 1) if cut in ("program a", "program ab") else (1, end + 1)
                    self.assertEqual((wrong.line, wrong.column), expected, cut)


# The forms of promises, and an own way to tell how far a text is a beginning of one.
FORMS = [
    ["name", "=at", "=least", "ratio", "=from", "ratio", "=to", "ratio"],
    ["name", "=near", "name", "=by", "ratio", "=from", "ratio", "=to", "ratio"],
    ["name", "=near", "row", "=by", "ratio", "=from", "ratio", "=to", "ratio", "=gap", "bits"],
    ["name", "=alike", "name"],
    ["name", "=never", "=falls"],
    ["name", "=fits", "whole", "=below", "whole"],
    ["name", "=near", "name", "=by", "ratio", "=below", "whole", "=frame", "ratio", "ratio", "bits"],
]
ROWS = ("exp", "sin", "cos", "atan", "log")
RIGHT = [
    "a at least -1/2 from 0 to 1", "  ab3  at   least 7  from -3/4  to 12/5  ", "a near b by 1/3 from -1 to 1",
    "p near exp by 1/1000 from -1 to 1 gap 30",
    "p near log by 0 from -1/2 to 1/2 gap 0", "a alike b", "prog1 never falls", "a fits 64 below 18446744073709551616",
    "a near b by 1/8 below 1024 frame -1 1/512 60",
    "expo near sin3 by 1 from 0 to 1", " a  alike  a ",
]


def is_word(kind, word):
    """Whether a run without spaces is a word of a kind."""
    whole = "(0|[1-9][0-9]{0,39})"
    if kind.startswith("="):
        return word == kind[1:]
    if kind == "row":
        return word in ROWS
    if kind == "name":
        return re.fullmatch("[a-z][a-z0-9]{0,7}", word) is not None and word not in BARRED
    if kind == "ratio":
        return re.fullmatch(f"-?{whole}(/[1-9][0-9]{{0,39}})?", word) is not None
    if re.fullmatch("0|[1-9][0-9]{0,19}", word) is None:
        return False
    return kind == "whole" or int(word) <= 60


def begins(kind, word):
    """Whether some word of a kind begins with a run."""
    if kind.startswith("="):
        return kind[1:].startswith(word)
    if kind == "row":
        return any(row.startswith(word) for row in ROWS)
    return any(is_word(kind, word + more) for more in ("", "0", "1", "a"))


def column_of(text):
    """The column that BadText is to tell; None for a promise."""
    best = 0
    for form in FORMS:
        at, place = 0, 0
        while at < len(text) and text[at] == " ":
            at += 1
        for kind in form:
            run = re.match("[^ ]*", text[at:]).group()
            size = max(size for size in range(len(run) + 1) if begins(kind, run[:size]))
            best = max(best, at + size)
            if size < len(run) or not is_word(kind, run):
                break
            at += len(run)
            place += 1
            if place < len(form):
                spaces = re.match(" *", text[at:]).group()
                best = max(best, at + len(spaces))
                if not spaces:
                    break
                at += len(spaces)
        if place == len(form):
            spaces = re.match(" *", text[at:]).group()
            best = max(best, at + len(spaces))
            if at + len(spaces) == len(text):
                return None
    return best + 1


class TestPromises(Asking):
    def told_column(self, text):
        try:
            Desk().kept(text)
        except BadText as wrong:
            return wrong.column
        except NoName:
            return None
        raise AssertionError(text)

    def test_right_texts(self):
        for text in RIGHT:
            self.assertIsNone(column_of(text))
            self.assertIsNone(self.told_column(text), text)

    def test_texts_that_are_cut_off(self):
        for text in RIGHT:
            for end in range(len(text)):
                self.assertEqual(self.told_column(text[:end]), column_of(text[:end]), text[:end])

    def test_one_sign_put_in_or_taken_out(self):
        for text in RIGHT:
            for at in range(len(text) + 1):
                for sign in (" ", "!", "a", "x", "0", "7", "-", "/", "\n", "\xe9"):
                    new = text[:at] + sign + text[at:]
                    self.assertEqual(self.told_column(new), column_of(new), new)
                new = text[:at] + text[at + 1:]
                self.assertEqual(self.told_column(new), column_of(new), new)
                for sign in ("b", "0", "9", " "):
                    new = text[:at] + sign + text[at + 1:]
                    self.assertEqual(self.told_column(new), column_of(new), new)

    def test_words_in_the_place_of_others(self):
        for text in RIGHT:
            words = text.split()
            for place in range(len(words)):
                for word in [*BARRED, "61", "60", "6", "-5", "5/0", "05", "0", "1" * 20, "1" * 21, "1" * 40, "1" * 41,
                    "1/" + "1" * 41, "-", "--1", "abcdefghi"]:
                    new = " ".join([*words[:place], word, *words[place + 1:]])
                    self.assertEqual(self.told_column(new), column_of(new), new)

    def test_by_hand(self):
        for text, column in (
            ("", 1), (" ", 2), ("a", 2), ("a ", 3), ("a n", 4), ("a nx", 4), ("a neverfalls", 8), ("a never fallsx", 14),
            ("near near b by 1 from 0 to 1", 5),
            ("quotient alike b", 8), ("a near exp by 1 from 0 to 1", 28), ("a near exp by 1 below", 17),
            ("a near b by 1 from 0 to 1 gap 3", 27),
            ("a near exp by 1 from 0 to 1 gap 61", 34), ("a near exp by 1 from 0 to 1 gap 612", 34),
            ("a near exp by 1 from 0 to 1 gap 06", 34), ("a fits -1 below 3", 8),
            ("a at least 1/0 from 0 to 1", 14), ("a at least - 1 from 0 to 1", 13),
            ("a fits 8 below 123456789012345678901", 36), ("x alike b", 2), ("a alike table", 14),
        ):
            self.assertEqual(self.told_column(text), column, text)
            self.assertEqual(column_of(text), column, text)

    def test_what_is_no_string(self):
        desk = Desk("program a\ny = x\nend")
        for text in (None, 3, b"a never falls", ["a never falls"], ("a", "never", "falls"), Poly((1,)), True):
            for function in (desk.keep, desk.kept):
                with self.assertRaises(BadText) as caught:
                    function(text)
                self.assertEqual(caught.exception.column, 0)

    def test_names_of_no_item(self):
        desk = Desk("poly p = x\nquotient q = 1 over 2\nprogram g\ny = x\nend")
        for text, name in (
            ("b at least 1 from 0 to 1", "b"), ("q at least 1 from 1 to 0", "q"), ("g at least 1 from 0 to 1", "g"),
            ("b near c by 1 from 0 to 1", "b"),
            ("q near p by 1 from 0 to 1", "q"), ("g near p by 1 from 0 to 1", "g"), ("p near g by 1 from 0 to 1", "g"),
            ("p near c by 1 from 0 to 1", "c"),
            ("q near exp by 1 from 0 to 1 gap 3", "q"), ("g near exp by 1 from 0 to 1 gap 3", "g"), ("p alike g", "p"),
            ("g alike p", "p"), ("q alike p", "q"),
            ("g alike h", "h"), ("p never falls", "p"), ("q fits 3 below 0", "q"),
            ("p near q by 1 below 4 frame 0 1 3", "p"), ("q near q by 1 below 4 frame 0 1 3", "q"),
            ("g near g by 1 below 4 frame 0 1 3", "g"), ("g near h by -1 below 0 frame 0 0 3", "h"),
        ):
            for function in (desk.keep, desk.kept, lambda it: desk.trial(lambda tried: tried.keep(it))):
                with self.assertRaises(NoName) as caught:
                    function(text)
                self.assertEqual(caught.exception.name, name)
        self.assertEqual(desk.promises(), ())

    def test_names_for_renames(self):
        desk = Desk("poly p = x")
        for new in [*BARRED, "", "P", "1p", "p_", "abcdefghi", "p ", " p", "\xe9", "p\n", None, 3, b"p", ("p",), ["p"],
            Poly((1,))]:
            for name in ("p", "other", None):
                with self.assertRaises(BadName) as caught:
                    desk.rename(name, new)
                self.assertIs(caught.exception.name, new)
        for new in ("p1", "abcdefgh", "end1", "xx", "tables", "expo"):
            with desk as tried:
                tried.rename("p", new)
                self.assertEqual(tried.names(), (new,))

    def test_errors_are_own_ones(self):
        self.assertTrue(issubclass(NoName, CurveError))


if __name__ == "__main__":
    unittest.main()
