import unittest

from fourpoints import errors

NAMES = ("NoText", "NoColumn", "NotHalf", "OutOfTimes", "NoSample", "NoWatch", "NoName", "NotApart")


class ErrorClasses(unittest.TestCase):
    def test_the_common_class_stands_under_value_error(self):
        self.assertTrue(issubclass(errors.FourPointsError, ValueError))
        self.assertIsNot(errors.FourPointsError, ValueError)

    def test_each_stands_under_the_common_class(self):
        for name in NAMES:
            with self.subTest(name):
                kind = getattr(errors, name)
                self.assertTrue(issubclass(kind, errors.FourPointsError))
                self.assertIsNot(kind, errors.FourPointsError)

    def test_none_stands_under_another(self):
        for name in NAMES:
            for other in NAMES:
                if name != other:
                    with self.subTest(f"{name} under {other}"):
                        self.assertFalse(issubclass(getattr(errors, name), getattr(errors, other)))

    def test_each_can_be_raised_and_taken_by_its_name(self):
        for name in NAMES:
            with self.subTest(name):
                kind = getattr(errors, name)
                with self.assertRaises(kind):
                    raise kind("words")


if __name__ == "__main__":
    unittest.main()
