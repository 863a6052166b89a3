"""Point 5: the errors."""

import unittest

from sideswaps import errors

WITH_VALUE = [
    "InvalidNumber", "InvalidWord", "InvalidJoints", "InvalidPrices", "InvalidList", "InvalidTrain", "InvalidMachine",
    "InvalidFar", "InvalidRoad", "InvalidLine", "InvalidDeed", "Unlike", "TooMany", "TooLong",
]
WITHOUT = ["NothingToUndo", "NothingToRedo"]


class ErrorsTest(unittest.TestCase):
    def test_one_family(self):
        self.assertEqual(errors.SwapError.__bases__, (ValueError,))
        for name in WITH_VALUE + WITHOUT:
            self.assertEqual(getattr(errors, name).__bases__, (errors.SwapError,), name)
            self.assertEqual(getattr(errors, name).__module__, "sideswaps.errors")

    def test_field(self):
        for name in WITH_VALUE:
            error = getattr(errors, name)
            held = [1, ["a"]]
            self.assertIs(error(held).value, held)
            self.assertIs(error(value=held).value, held)
            self.assertIsNone(error().value)
            self.assertIsNone(error(None).value)

    def test_no_field(self):
        for name in WITHOUT:
            self.assertFalse(hasattr(getattr(errors, name)(), "value"), name)

    def test_caught_by_name_and_family(self):
        for name in WITH_VALUE + WITHOUT:
            for family in (getattr(errors, name), errors.SwapError, ValueError):
                with self.assertRaises(family):
                    raise getattr(errors, name)()


if __name__ == "__main__":
    unittest.main()
