import unittest

from coinroll.errors import BadLine
from coinroll.lines import entry_of, line_of

from helper import no_texts

APRIL = 2031 * 12 + 3
MOST = 10 ** 10

WRITTEN = [
    ("a1 wage ann 2031-04 0 1200.00", "a1", ("wage", "ann", APRIL, 0, 120000)),
    ("x extra ann 2031-05 80.00", "x", ("extra", "ann", APRIL + 1, 8000)),
    ("a1 out", "a1", None),
    ("0 wage a 0000-01 0 0.00", "0", ("wage", "a", 0, 0, 0)),
    ("zzzzzzzz wage abcdefgh 9999-12 99 100000000.00", "zzzzzzzz", ("wage", "abcdefgh", 119999, 99, MOST)),
    ("12345678 extra zzzzzzzz 0000-01 0.01", "12345678", ("extra", "zzzzzzzz", 0, 1)),
    ("b extra ann 9999-12 100000000.00", "b", ("extra", "ann", 119999, MOST)),
    ("wage wage wage 2031-04 10 0.07", "wage", ("wage", "wage", APRIL, 10, 7)),
    ("extra extra extra 2031-04 0.07", "extra", ("extra", "extra", APRIL, 7)),
    ("out out", "out", None),
    ("day wage out 2031-12 9 99.99", "day", ("wage", "out", APRIL + 8, 9, 9999)),
    ("close out", "close", None),
]


class TestLines(unittest.TestCase):
    def test_written(self):
        for line, mark, entry in WRITTEN:
            self.assertEqual(line_of(mark, entry), line)

    def test_read_back(self):
        for line, mark, entry in WRITTEN:
            self.assertEqual(entry_of(line), (mark, entry))
            self.assertIsInstance(entry_of(line), tuple)

    def test_many_are_read_back(self):
        for first in (0, 11, 12, APRIL, 119999):
            for amount in (0, 1, 10, 99, 100, 12345, MOST - 1, MOST):
                for rank in (0, 1, 9, 10, 98, 99):
                    entry = ("wage", "ann", first, rank, amount)
                    self.assertEqual(entry_of(line_of("m", entry)), ("m", entry))
                entry = ("extra", "bob", first, amount)
                self.assertEqual(entry_of(line_of("m", entry)), ("m", entry))


class TestRefused(unittest.TestCase):
    def refuse(self, line):
        with self.assertRaises(BadLine, msg=line[:80] if isinstance(line, str) else None):
            entry_of(line)

    def test_a_word_more_less_doubled_or_another_one(self):
        for line, mark, entry in WRITTEN:
            words = line.split(" ")
            for place in range(len(words)):
                self.refuse(" ".join(words[:place] + words[place + 1:]))
                self.refuse(" ".join(words[:place] + [words[place]] + words[place:]))
                self.refuse(" ".join(words[:place] + [""] + words[place + 1:]))
                self.refuse(" ".join(words[:place] + ["A"] + words[place + 1:]))
                self.refuse(" ".join(words[:place] + ["-1"] + words[place + 1:]))
                self.refuse(" ".join(words[:place] + ["7"] + words[place:]))
            self.refuse(line + " out")
            self.refuse(line + " 0")
            self.refuse(line + " " + line)

    def test_blanks(self):
        for line, mark, entry in WRITTEN:
            self.refuse(" " + line)
            self.refuse(line + " ")
            for place in range(len(line)):
                if line[place] == " ":
                    self.refuse(line[:place] + " " + line[place:])
                    self.refuse(line[:place] + line[place + 1:])
                    for sign in "\t\n_;-":
                        self.refuse(line[:place] + sign + line[place + 1:])

    def test_line_ends(self):
        for line, mark, entry in WRITTEN:
            self.refuse(line + "\n")
            self.refuse("\n" + line)
            self.refuse(line + "\r")

    def test_great_letters(self):
        for line, mark, entry in WRITTEN:
            for place in range(len(line)):
                if line[place].isalpha():
                    self.refuse(line[:place] + line[place].upper() + line[place + 1:])

    def test_marks(self):
        for mark in ("", "A", "a-1", "a_1", "123456789", "abcdefghi", "a" * 5000, "a.", "-"):
            self.refuse(f"{mark} wage ann 2031-04 0 1200.00")
            self.refuse(f"{mark} extra ann 2031-04 1200.00")
            self.refuse(f"{mark} out")

    def test_words(self):
        for word in ("", "Wage", "wages", "wag", "out", "extra", "Extra", "extras", "none", "day"):
            self.refuse(f"a1 {word} ann 2031-04 0 1200.00")
        for word in ("", "Wage", "wage", "out", "extras", "Extra", "none", "close"):
            self.refuse(f"a1 {word} ann 2031-04 80.00")
        for word in ("", "Out", "OUT", "in", "wage", "extra", "none", "None", "out."):
            self.refuse(f"a1 {word}")

    def test_names(self):
        for name in ("", "Ann", "ann1", "1", "abcdefghi", "a-b", "a" * 5000):
            self.refuse(f"a1 wage {name} 2031-04 0 1200.00")
            self.refuse(f"a1 extra {name} 2031-04 1200.00")

    def test_months(self):
        for month in ("", "2031-4", "2031-13", "2031-00", "203-04", "02031-04", "10000-01", "2031/04", "2031", "203104", "24375", "-1",
                      "+031-04", "2031-04-01", "1" * 5000):
            self.refuse(f"a1 wage ann {month} 0 1200.00")
            self.refuse(f"a1 extra ann {month} 1200.00")

    def test_ranks(self):
        for rank in ("", "00", "01", "09", "100", "101", "-1", "-0", "+1", "1.0", "1.", "a", "1a", "0x", "1_", "9" * 30, "1" * 5000, "0" * 5000):
            self.refuse(f"a1 wage ann 2031-04 {rank} 1200.00")

    def test_amounts(self):
        for amount in ("", "1200", "1200.0", "1200.000", "01200.00", "00.00", "-0.00", "-0.01", "-1200.00", "+1.00", "1,00", "1.2.0", ".50",
                       "100000000.01", "100000001.00", "1000000000.00", "9" * 27 + ".00", "9" * 28 + ".00", "1" * 5000, "1" * 5000 + ".00"):
            self.refuse(f"a1 wage ann 2031-04 0 {amount}")
            self.refuse(f"a1 extra ann 2031-04 {amount}")

    def test_short_texts(self):
        for line in ("", " ", "  ", "\n", "a1", "a1 ", "out", " out", "wage", "wage ann", "extra"):
            self.refuse(line)

    def test_what_is_no_text(self):
        others = [["a1 out"], ("a1", "out"), ["a1", "out"], b"a1 out", ("wage", "ann", APRIL, 0, 1), {"a1": "out"}]
        for thing in no_texts() + others:
            self.refuse(thing)


if __name__ == "__main__":
    unittest.main()
