"""The errors: their classes, and the field that each of them carries."""

import unittest

from footpath.errors import CommandError, FootpathError, PlaceError, SettingsError, SoupError

FIELDS = [(SettingsError, "name", "columns"), (SoupError, "at", 3), (PlaceError, "name", "tile"), (CommandError, "line", 12)]


class Errors(unittest.TestCase):

    def test_base_class(self):
        self.assertTrue(issubclass(FootpathError, ValueError))
        for kind, _, _ in FIELDS:
            self.assertTrue(issubclass(kind, FootpathError), kind)

    def test_no_error_is_another_one(self):
        kinds = [kind for kind, _, _ in FIELDS]
        for kind in kinds:
            self.assertEqual([other for other in kinds if issubclass(kind, other)], [kind])

    def test_fields(self):
        for kind, field, value in FIELDS:
            self.assertEqual(getattr(kind(value), field), value)
            self.assertEqual(getattr(kind(**{field: value}), field), value)

    def test_field_of_index_0(self):
        self.assertEqual(SoupError(0).at, 0)

    def test_one_value(self):
        for kind, _, value in FIELDS:
            with self.assertRaises(TypeError):
                kind()
            with self.assertRaises(TypeError):
                kind(value, value)

    def test_raised_and_caught(self):
        for kind, field, value in FIELDS:
            with self.assertRaises(FootpathError) as caught:
                raise kind(value)
            self.assertEqual(getattr(caught.exception, field), value)
            self.assertIn(str(value), str(caught.exception))


if __name__ == "__main__":
    unittest.main()
