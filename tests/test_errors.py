"""The tests of inputways.errors: promises [1.2] and [0.4]."""

import unittest

from inputways.errors import PackError, TextError, WaysError


class ErrorsTest(unittest.TestCase):

    def test_which_class_is_below_which(self):
        self.assertEqual(WaysError.__bases__, (ValueError,))
        self.assertEqual(TextError.__bases__, (WaysError,))
        self.assertEqual(PackError.__bases__, (WaysError,))
        self.assertFalse(issubclass(TextError, PackError))
        self.assertFalse(issubclass(PackError, TextError))

    def test_the_field_line(self):
        for line in (1, 2, 77):
            error = TextError(line)
            self.assertEqual(error.line, line)
            self.assertIs(type(error.line), int)
            self.assertFalse(hasattr(error, "at"))

    def test_the_field_at(self):
        for at in (-1, 0, 5):
            error = PackError(at)
            self.assertEqual(error.at, at)
            self.assertIs(type(error.at), int)
            self.assertFalse(hasattr(error, "line"))

    def test_each_is_caught_by_its_bases(self):
        for base in (TextError, WaysError, ValueError):
            with self.assertRaises(base) as caught:
                raise TextError(3)
            self.assertEqual(caught.exception.line, 3)
        for base in (PackError, WaysError, ValueError):
            with self.assertRaises(base) as caught:
                raise PackError(-1)
            self.assertEqual(caught.exception.at, -1)

    def test_the_base_can_be_raised_itself(self):
        with self.assertRaises(ValueError):
            raise WaysError("why")


if __name__ == "__main__":
    unittest.main()
