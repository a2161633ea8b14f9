"""The classes of errors: their fields, and where they stand."""

import copy
import pickle
import unittest

from justthese import errors
from justthese.errors import BadLine, JustError, TooMany

PARTS = """BadNumber BadText BadWorld BadMap BadWeb BadLaying BadCode BadClasp BadBox BadTable BadMakers
BadMoves BadHouse BadPairs BadGroups BadPuzzle BadPaper Misfit""".split()
WHYS = "NoClasp NoBox NoPlan NoTable NoHouse".split()
FIELDS = {name: ("part",) for name in PARTS}
FIELDS.update({name: ("why",) for name in WHYS})
FIELDS.update({"TooMany": ("what", "most"), "BadLine": ("line", "word")})


class Errors(unittest.TestCase):
    def test_fields_by_place_and_by_name(self):
        values = [[1, [2]], {"a": [1]}]
        for name, fields in FIELDS.items():
            made = getattr(errors, name)
            told = values[: len(fields)]
            for error in (made(*told), made(**dict(zip(fields, told)))):
                with self.subTest(name=name):
                    self.assertEqual(list(vars(error)), list(fields))
                    for field, value in zip(fields, told):
                        self.assertIs(getattr(error, field), value)

    def test_any_values_are_kept(self):
        for value in (None, True, 0, "part", (), [], object(), errors):
            self.assertIs(errors.Misfit(value).part, value)
            self.assertIs(errors.NoTable(why=value).why, value)
            self.assertIs(TooMany(value, most=1).what, value)
            self.assertIs(BadLine(word=value, line=1).word, value)

    def test_fields_have_to_be_told(self):
        for name, fields in FIELDS.items():
            made = getattr(errors, name)
            self.assertRaises(TypeError, made)
            self.assertRaises(TypeError, made, *range(len(fields) + 1))

    def test_classes_stand_directly_below_just_error(self):
        self.assertEqual(JustError.__bases__, (ValueError,))
        for name in FIELDS:
            made = getattr(errors, name)
            self.assertEqual(made.__bases__, (JustError,), name)
            self.assertEqual((made.__name__, made.__module__), (name, "justthese.errors"))

    def test_no_class_is_missing_and_none_is_below_another(self):
        told = [value for value in vars(errors).values() if isinstance(value, type)]
        self.assertEqual(sorted(value.__name__ for value in told), sorted([*FIELDS, "JustError"]))
        for one in told:
            for other in told:
                if other is not JustError and one is not other:
                    self.assertFalse(issubclass(one, other))

    def test_they_can_be_caught(self):
        for name, fields in FIELDS.items():
            for kind in (getattr(errors, name), JustError, ValueError, Exception):
                with self.assertRaises(kind):
                    raise getattr(errors, name)(*fields)

    def test_an_error_that_was_made_by_place_can_be_copied(self):
        error = copy.copy(TooMany("rows", 1000))
        self.assertEqual((error.what, error.most), ("rows", 1000))
        self.assertEqual(vars(pickle.loads(pickle.dumps(BadLine(2, 1)))), {"line": 2, "word": 1})


if __name__ == "__main__":
    unittest.main()
