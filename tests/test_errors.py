import unittest

from oddskept import errors


class Errors(unittest.TestCase):
    def test_classes(self):
        self.assertEqual(errors.OddsError.__bases__, (ValueError,))
        for name in ("BadShare", "BadBook", "BadProgram", "BadPlan", "Unfit", "TooLarge", "BadText", "BadMove", "BadEdit"):
            with self.subTest(name):
                self.assertEqual(getattr(errors, name).__bases__, (errors.OddsError,))
                self.assertEqual(getattr(errors, name).__module__, "oddskept.errors")

    def test_fields(self):
        self.assertEqual(errors.BadText(3).line, 3)
        self.assertEqual(errors.BadMove(0).index, 0)
        self.assertEqual(errors.BadEdit(7).index, 7)

    def test_raised_without_fields(self):
        for name in ("BadShare", "BadBook", "BadProgram", "BadPlan", "Unfit", "TooLarge"):
            with self.subTest(name), self.assertRaises(ValueError):
                raise getattr(errors, name)("said")
