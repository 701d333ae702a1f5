import unittest

from coinroll.names import is_mark, is_name, rise

from helper import no_texts

LETTERS = "abcdefghijklmnopqrstuvwxyz"
FIGURES = "0123456789"


class TestNames(unittest.TestCase):
    def test_names_of_one_to_eight_small_letters(self):
        for text in list(LETTERS) + ["ann", "az", "abcdefg", "abcdefgh", "zzzzzzzz", "base", "net"]:
            with self.subTest(text):
                self.assertIs(is_name(text), True)

    def test_no_names(self):
        for text in ["", "abcdefghi", "a" * 1000, "ann1", "1", "1ann", "aNn"]:
            with self.subTest(text):
                self.assertIs(is_name(text), False)

    def test_marks_of_one_to_eight_small_letters_or_figures(self):
        for text in list(LETTERS + FIGURES) + ["a1", "1a", "00", "12345678", "abcdefgh", "a2345678"]:
            with self.subTest(text):
                self.assertIs(is_mark(text), True)

    def test_no_marks(self):
        for text in ["", "123456789", "abcdefghi", "a1b2c3d4e", "1" * 1000, "A1", "a1B"]:
            with self.subTest(text):
                self.assertIs(is_mark(text), False)

    def test_every_other_sign_is_refused_alone_ahead_within_and_behind(self):
        for number in list(range(128)) + [0xAA, 0xB2, 0xDF, 0xE9, 0x131, 0x660, 0xFF41, 0xFF11, 0x1D7CE]:
            sign = chr(number)
            for text in (sign, sign + "a", "a" + sign + "a", "a" + sign):
                with self.subTest(text):
                    self.assertIs(is_name(text), sign in LETTERS)
                    self.assertIs(is_mark(text), sign in LETTERS + FIGURES)

    def test_what_is_no_text(self):
        for thing in no_texts() + [["a"], ("a",), {"a": 1}, {"a"}, b"a", [97]]:
            self.assertIs(is_name(thing), False)
            self.assertIs(is_mark(thing), False)


class TestRise(unittest.TestCase):
    def test_what_rises(self):
        for things in ([], [5], [0, 1], [-3, 0, 10 ** 30], ["a", "aa", "b"], list(range(50))):
            self.assertIs(rise(things), True)

    def test_what_doesnt(self):
        for things in ([1, 1], [2, 1], [0, 1, 1], [0, 2, 1], [1, 0, 2], ["b", "a"], ["a", "a"]):
            self.assertIs(rise(things), False)


if __name__ == "__main__":
    unittest.main()
