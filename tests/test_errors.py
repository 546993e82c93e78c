"""The exceptions: their fields and what they stand under ([2], errors.py)."""

import unittest

from primezeros import errors
from tests.helpers import strange_values

FIELD_NAMES = {
    "BadField": "place", "BadPoly": "place", "BadPoint": "value", "BadSystem": "place",
    "BadBox": "value", "BadLot": "value", "BadPlanes": "place", "BadVectors": "place",
    "BadNumber": "value", "BadPaper": "word", "BadText": "part",
}


class Errors(unittest.TestCase):
    def test_each_keeps_its_very_field(self):
        for name, field_name in FIELD_NAMES.items():
            for value in strange_values() + [(), (0,), (1, 2)]:
                error = getattr(errors, name)(value)
                self.assertIs(getattr(error, field_name), value)
                error = getattr(errors, name)(**{field_name: value})
                self.assertIs(getattr(error, field_name), value)

    def test_too_great_keeps_its_field(self):
        for value in strange_values() + [4, 130, 400]:
            self.assertIs(errors.TooGreat(value).most, value)
            self.assertIs(errors.TooGreat(most=value).most, value)

    def test_one_field_is_needed(self):
        for name in [*FIELD_NAMES, "TooGreat"]:
            with self.assertRaises(TypeError):
                getattr(errors, name)()
            with self.assertRaises(TypeError):
                getattr(errors, name)(1, 2)

    def test_each_stands_directly_under_rest_error(self):
        for name in [*FIELD_NAMES, "NothingLeft"]:
            self.assertEqual(getattr(errors, name).__bases__, (errors.RestError,))
        self.assertEqual(errors.RestError.__bases__, (ValueError,))
        self.assertEqual(errors.TooGreat.__bases__, (OverflowError,))

    def test_none_stands_under_another(self):
        names = [*FIELD_NAMES, "NothingLeft", "TooGreat"]
        for name in names:
            for other in names:
                under = issubclass(getattr(errors, name), getattr(errors, other))
                self.assertEqual(under, name == other)
        self.assertFalse(issubclass(errors.TooGreat, ValueError))

    def test_rest_error_is_made_with_any_text(self):
        for text in ("", "x", "two words\nand a line"):
            with self.assertRaises(ValueError) as caught:
                raise errors.RestError(text)
            self.assertEqual(str(caught.exception), text)

    def test_nothing_left_is_made_without_arguments(self):
        with self.assertRaises(errors.RestError):
            raise errors.NothingLeft()

    def test_they_are_raised_and_caught_by_name(self):
        for name, field_name in FIELD_NAMES.items():
            with self.assertRaises(errors.RestError) as caught:
                raise getattr(errors, name)((3,))
            self.assertEqual(getattr(caught.exception, field_name), (3,))
        with self.assertRaises(OverflowError) as caught:
            raise errors.TooGreat(130)
        self.assertEqual(caught.exception.most, 130)
