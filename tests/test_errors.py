import unittest

from boxclose import errors

NAMES = ["BadNet", "BadDrawn", "BadSide", "BadPlay", "BadNumber", "BadFloor", "BadEnding", "BadOrder", "TooMany"]


class Errors(unittest.TestCase):
    def test_close_error_is_straight_under_value_error(self):
        self.assertEqual(errors.CloseError.__bases__, (ValueError,))
        self.assertEqual(errors.CloseError.__module__, "boxclose.errors")

    def test_each_other_is_straight_under_close_error(self):
        for name in NAMES:
            kind = getattr(errors, name)
            self.assertEqual(kind.__bases__, (errors.CloseError,), name)
            self.assertEqual(kind.__module__, "boxclose.errors", name)
            self.assertEqual(kind.__name__, name)

    def test_each_is_a_class_of_its_own(self):
        self.assertEqual(len({getattr(errors, name) for name in NAMES}), len(NAMES))


if __name__ == "__main__":
    unittest.main()
