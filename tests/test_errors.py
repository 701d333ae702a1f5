import unittest

from coinroll import errors

NAMES = [
    "BadAmount", "BadShare", "BadText", "BadMonth", "BadYear", "BadRule", "BadBook", "NoYear",
    "BadDay", "BadEntry", "NoMark", "NoPerson", "TooMany", "BadClose", "BadLine",
]


class TestErrors(unittest.TestCase):
    def test_the_base_stands_under_value_error(self):
        self.assertEqual(errors.RollError.__bases__, (ValueError,))

    def test_each_stands_straight_under_the_base(self):
        for name in NAMES:
            with self.subTest(name):
                self.assertEqual(getattr(errors, name).__bases__, (errors.RollError,))
                self.assertEqual(getattr(errors, name).__name__, name)

    def test_none_stands_under_another_one(self):
        for name in NAMES:
            for other in NAMES:
                if name != other:
                    with self.subTest(name, other=other):
                        self.assertFalse(issubclass(getattr(errors, name), getattr(errors, other)))

    def test_each_is_taken_as_itself_as_the_base_and_as_value_error(self):
        for name in NAMES:
            kind = getattr(errors, name)
            for taken in (kind, errors.RollError, ValueError):
                with self.subTest(name, taken=taken):
                    with self.assertRaises(taken):
                        raise kind("words")


if __name__ == "__main__":
    unittest.main()
