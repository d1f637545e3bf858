import unittest

from mirrorruns import errors
from mirrorruns.errors import RowError

NAMES = (
    "NoRow", "NoCount", "TooLong", "TooMany", "NoReaches", "NoLine",
    "Bare", "NoLengths", "NoMirror", "NoNumber", "NoSign", "NoMiddle",
)


class Errors(unittest.TestCase):
    def test_row_error_stands_straight_under_value_error(self):
        self.assertEqual(RowError.__bases__, (ValueError,))

    def test_each_class_stands_straight_under_row_error(self):
        for name in NAMES:
            with self.subTest(name):
                self.assertEqual(getattr(errors, name).__bases__, (RowError,))

    def test_none_stands_under_another_one(self):
        classes = [getattr(errors, name) for name in NAMES]
        for one in classes:
            for other in classes:
                if one is not other:
                    with self.subTest(one=one, other=other):
                        self.assertFalse(issubclass(one, other))

    def test_each_name_is_a_class_of_its_own(self):
        self.assertEqual([getattr(errors, name).__name__ for name in NAMES], list(NAMES))

    def test_each_is_made_of_a_text(self):
        for name in NAMES + ("RowError",):
            for text in ("", "some words", "a\nb"):
                with self.subTest(name=name, text=text):
                    error = getattr(errors, name)(text)
                    self.assertEqual(str(error), text)
                    self.assertEqual(error.args, (text,))

    def test_each_is_raised_and_taken_by_its_own_class_and_those_above(self):
        for name in NAMES:
            made = getattr(errors, name)
            for above in (made, RowError, ValueError):
                with self.subTest(name=name, above=above):
                    with self.assertRaises(above):
                        raise made("some words")


if __name__ == "__main__":
    unittest.main()
