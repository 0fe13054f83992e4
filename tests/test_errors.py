import unittest

from ringfigures import errors

REFUSALS = ["NoBase", "NoFraction", "NoWriting", "NoNumber", "TooLong", "NoNote"]


class ErrorsTest(unittest.TestCase):
    def test_figure_error_stands_beneath_value_error(self):
        self.assertTrue(issubclass(errors.FigureError, ValueError))

    def test_each_refusal_stands_straight_beneath_figure_error(self):
        for name in REFUSALS:
            self.assertEqual(getattr(errors, name).__bases__, (errors.FigureError,), name)

    def test_no_refusal_stands_beneath_another(self):
        for name in REFUSALS:
            for other in REFUSALS:
                if name != other:
                    self.assertFalse(issubclass(getattr(errors, name), getattr(errors, other)))


if __name__ == "__main__":
    unittest.main()
