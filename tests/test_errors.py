"""The refusals, made by hand."""

import unittest

from figuresums.errors import NoAsk, NoNumber, NoStretch, SumError


class ErrorsTest(unittest.TestCase):
    def test_text_is_told(self):
        for kind in (NoStretch, NoAsk, SumError):
            for text in ("", "a text", "two\nlines", "7"):
                with self.subTest(kind=kind.__name__, text=text):
                    self.assertEqual(str(kind(text)), text)

    def test_place_is_kept(self):
        for place in (0, 1, 299):
            with self.subTest(place=place):
                self.assertEqual(NoNumber(place).place, place)

    def test_all_are_sum_errors_and_value_errors(self):
        for error in (NoStretch("x"), NoAsk("x"), NoNumber(0), SumError("x")):
            with self.subTest(kind=error.__class__.__name__):
                self.assertIsInstance(error, SumError)
                self.assertIsInstance(error, ValueError)

    def test_none_stands_under_another(self):
        kinds = (NoStretch, NoAsk, NoNumber)
        for one in kinds:
            for other in kinds:
                with self.subTest(one=one.__name__, other=other.__name__):
                    self.assertEqual(issubclass(one, other), one is other)

    def test_sum_error_stands_under_none_of_them(self):
        for kind in (NoStretch, NoAsk, NoNumber):
            with self.subTest(kind=kind.__name__):
                self.assertFalse(issubclass(SumError, kind))


if __name__ == "__main__":
    unittest.main()
