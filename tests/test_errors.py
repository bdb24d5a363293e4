"""Promise [3]."""

import copy
import unittest

from nearcurves import errors

FIELDS = {
    "BadText": ("column",),
    "BadLine": ("line", "column"),
    "BadNumber": ("what", "number"),
    "BadRow": ("row",),
    "BadInterval": ("low", "high"),
    "BadName": ("name",),
    "Unlike": ("what",),
    "TooMany": ("what", "limit"),
    "TooLarge": ("what", "number", "limit"),
    "TooWide": (),
    "Pole": (),
    "Fewer": ("what",),
    "NoName": ("name",),
    "TakenName": ("name",),
    "NotKept": ("promise", "witness"),
    "NothingToUndo": (),
    "NothingToRedo": (),
}

VALUES = [
    0, -1, 10 ** 5000, -10 ** 60, True, None, "", "text", b"b", (), (2, 4), [], [1, [2, 3]], {}, {"a": [1]}, 1.5, object(),
    ValueError("x"), len,
]


def made(name, values):
    return getattr(errors, name)(*values)


class TestErrors(unittest.TestCase):
    def test_curve_error_is_a_value_error(self):
        self.assertEqual(errors.CurveError.__bases__, (ValueError,))

    def test_each_derives_directly_from_curve_error(self):
        for name in FIELDS:
            self.assertEqual(getattr(errors, name).__bases__, (errors.CurveError,), name)
            self.assertEqual(getattr(errors, name).__module__, "nearcurves.errors", name)

    def test_there_are_no_others(self):
        classes = [name for name, value in vars(errors).items() if isinstance(value, type)]
        self.assertEqual(sorted(classes), sorted(["CurveError", *FIELDS]))

    def test_each_is_of_its_own_class_alone(self):
        for name, fields in FIELDS.items():
            error = made(name, fields)
            self.assertIsInstance(error, errors.CurveError)
            self.assertIsInstance(error, ValueError)
            own = [other for other in FIELDS if isinstance(error, getattr(errors, other))]
            self.assertEqual(own, [name])

    def test_fields_are_kept_in_order(self):
        for name, fields in FIELDS.items():
            self.assertEqual(vars(made(name, fields)), {field: field for field in fields}, name)

    def test_fields_are_kept_just_as_they_are(self):
        for name, fields in FIELDS.items():
            for place, field in enumerate(fields):
                for value in VALUES:
                    values = list(fields)
                    values[place] = value
                    self.assertIs(getattr(made(name, values), field), value, name)

    def test_what_is_handed_in_stays_as_it_was(self):
        row = [1, [2, 3]]
        before = copy.deepcopy(row)
        self.assertIs(errors.BadRow(row).row, row)
        self.assertEqual(row, before)

    def test_they_can_be_raised_and_caught(self):
        for name, fields in FIELDS.items():
            with self.assertRaises(errors.CurveError) as caught:
                raise made(name, fields)
            self.assertIs(type(caught.exception), getattr(errors, name))

    def test_too_few_fields_will_not_do(self):
        for name, fields in FIELDS.items():
            if fields:
                self.assertRaises(TypeError, made, name, fields[1:])
                self.assertRaises(TypeError, made, name, [*fields, 1])


if __name__ == "__main__":
    unittest.main()
