"""cleanrows.errors: the first entry of the interface."""

import unittest

from cleanrows import errors

REFUSALS = (
    "NoRow", "NoDisk", "Full", "Stopped", "NoFile", "NoPlace", "HeldAlready", "NotHeld",
    "NoFiles", "NoMark", "NoRoom", "Gone", "NotClosed", "NotBlank", "NoDeed", "NoHouse",
)


class ErrorsTest(unittest.TestCase):

    def test_clean_error_is_a_value_error(self):
        self.assertEqual(errors.CleanError.__bases__, (ValueError,))
        self.assertEqual(errors.CleanError.__name__, "CleanError")

    def test_each_refusal_stands_straight_under_clean_error(self):
        self.assertEqual(len(REFUSALS), 16)
        for name in REFUSALS:
            with self.subTest(name=name):
                refusal = getattr(errors, name)
                self.assertEqual(refusal.__bases__, (errors.CleanError,))
                # The desk tells a refusal by the name of its class.
                self.assertEqual(refusal.__name__, name)

    def test_no_refusal_is_caught_as_another(self):
        for name in REFUSALS:
            for other in REFUSALS:
                same = issubclass(getattr(errors, name), getattr(errors, other))
                self.assertEqual(same, name == other, (name, other))

    def test_there_are_no_other_refusals(self):
        found = {name for name, value in vars(errors).items() if isinstance(value, type)}
        self.assertEqual(found, set(REFUSALS) | {"CleanError"})


if __name__ == "__main__":
    unittest.main()
