import unittest

from haltline import errors

NAMES = ("BadLine", "BadTrains", "BadOrders", "BadTable", "Sticks", "TooSoon", "TooMany", "BadText")


class ErrorClasses(unittest.TestCase):
    def test_halt_error_is_a_value_error(self):
        self.assertTrue(issubclass(errors.HaltError, ValueError))

    def test_each_stands_under_halt_error(self):
        for name in NAMES:
            with self.subTest(name):
                self.assertTrue(issubclass(getattr(errors, name), errors.HaltError))
                self.assertTrue(issubclass(getattr(errors, name), ValueError))
                self.assertIsNot(getattr(errors, name), errors.HaltError)

    def test_none_stands_under_another(self):
        for name in NAMES:
            for other in NAMES:
                if name != other:
                    with self.subTest(name=name, other=other):
                        self.assertFalse(issubclass(getattr(errors, name), getattr(errors, other)))

    def test_each_can_be_raised_with_words(self):
        for name in NAMES:
            with self.subTest(name), self.assertRaises(errors.HaltError):
                raise getattr(errors, name)("words")


if __name__ == "__main__":
    unittest.main()
