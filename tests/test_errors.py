"""The error classes that the interface lists, and their fields."""

import unittest

from dartwebs import errors

FIELDS = {
    "BadWeb": None, "NoNode": None, "BadCount": None, "BadArrows": None, "TooGreat": None,
    "BadRow": None, "BadOrder": None, "NotText": None, "InvalidText": "place", "Twice": "name",
    "Unknown": "name", "NoSuchNode": "value", "TooLong": "most", "BadSum": None, "ByNought": None,
    "NotEven": None, "BadShares": None, "BadLot": None, "NotFinite": None, "NotTrees": None,
    "TooMany": "most", "Alike": None, "BadCutting": None, "NoCorner": None, "NothingDone": None,
    "InvalidDesk": "at", "NoTree": None, "NotSteady": None, "BadTimes": None,
}


class Errors(unittest.TestCase):
    def test_base_class(self):
        self.assertEqual(errors.WebError.__bases__, (ValueError,))

    def test_direct_subclasses(self):
        for name in FIELDS:
            self.assertEqual(getattr(errors, name).__bases__, (errors.WebError,), name)
            self.assertEqual(getattr(errors, name).__module__, "dartwebs.errors", name)

    def test_just_these(self):
        found = {cls.__name__ for cls in errors.WebError.__subclasses__()}
        self.assertEqual(found, set(FIELDS))

    def test_fields(self):
        for name, field in FIELDS.items():
            cls = getattr(errors, name)
            if field is None:
                self.assertEqual(vars(cls()), {}, name)
            else:
                self.assertEqual(vars(cls(7)), {field: 7}, name)
                self.assertEqual(vars(cls(**{field: "x"})), {field: "x"}, name)

    def test_caught_as_a_web_error(self):
        for name, field in FIELDS.items():
            with self.assertRaises(errors.WebError):
                raise getattr(errors, name)(*(() if field is None else (1,)))
