import unittest

from coinroll.booktext import book_of, text_of
from coinroll.errors import BadText
from coinroll.rulebook import RuleBook

from helper import no_texts

EIGHT = [
    "flat h 1", "share g 1000 near", "capped f 900 5000 up", "least e 100 7 even", "bands d 0:0,100:1000 down",
    "ontop c 550 down of share b 1000 near", "flat b 0", "flat a 1000000000000",
]

TEXTS = [
    "",
    "year 2031",
    "year 0000",
    "year 9999",
    "year 2031\nflat fee 500",
    "year 2031\nshare tax 1000 near\nflat fee 500",
    "year 0000\nflat a 1\nyear 0001\nyear 0010\nflat a 1\nyear 0999\nyear 9999\nflat b 2",
    "year 2031\nyear 2032\nyear 2033",
    "year 2031\n" + "\n".join(EIGHT) + "\nyear 2033\n" + "\n".join(EIGHT[::-1]) + "\nyear 2040",
]


def rows_by_year(book):
    return [(year, book.rows(year)) for year in book.years()]


class TestTextOf(unittest.TestCase):
    def test_no_year(self):
        self.assertEqual(text_of(RuleBook()), "")

    def test_one_year(self):
        book = RuleBook()
        book.put(2031, ["share tax 1000 near", "flat fee 500"])
        self.assertEqual(text_of(book), "year 2031\nshare tax 1000 near\nflat fee 500")
        book.put(2031, [])
        self.assertEqual(text_of(book), "year 2031")

    def test_years_told_in_any_order(self):
        text = "year 0007\nyear 0031\nflat a 1\nflat b 2\nyear 2031\nflat b 2\nflat a 1"
        told = [(2031, ["flat b 2", "flat a 1"]), (7, []), (31, ["flat a 1", "flat b 2"])]
        for order in ((0, 1, 2), (2, 1, 0), (1, 2, 0), (1, 0, 2)):
            book = RuleBook()
            for place in order:
                book.put(told[place][0], told[place][1])
            self.assertEqual(text_of(book), text)

    def test_the_book_stays_as_it_was(self):
        book = RuleBook()
        book.put(2031, EIGHT)
        text_of(book)
        self.assertEqual(rows_by_year(book), [(2031, EIGHT)])


class TestBookOf(unittest.TestCase):
    def test_read_back_and_written_the_same_again(self):
        for text in TEXTS:
            with self.subTest(text):
                book = book_of(text)
                self.assertIsInstance(book, RuleBook)
                self.assertEqual(text_of(book), text)

    def test_the_same_years_and_rows(self):
        for told in ([], [(2031, [])], [(0, EIGHT), (9999, [])], [(5, ["flat a 1"]), (6, EIGHT), (7, [])]):
            book = RuleBook()
            for year, rows in reversed(told):
                book.put(year, rows)
            self.assertEqual(rows_by_year(book_of(text_of(book))), told)

    def test_the_empty_text(self):
        self.assertEqual(book_of("").years(), [])

    def test_each_asker_has_its_own(self):
        one = book_of(TEXTS[4])
        one.put(2031, [])
        one.put(2032, [])
        self.assertEqual(text_of(book_of(TEXTS[4])), TEXTS[4])
        none = book_of("")
        none.put(2031, [])
        self.assertEqual(book_of("").years(), [])


class TestRefused(unittest.TestCase):
    def refuse(self, text):
        with self.subTest(text=text[:80] if isinstance(text, str) else None):
            with self.assertRaises(BadText):
                book_of(text)

    def test_line_ends_too_many(self):
        for text in TEXTS:
            self.refuse(text + "\n")
            self.refuse("\n" + text)
            for place in range(len(text)):
                if text[place] == "\n":
                    self.refuse(text[:place] + "\n" + text[place:])
                    self.refuse(text[:place] + "\r" + text[place:])
                    self.refuse(text[:place] + " " + text[place:])
                    self.refuse(text[:place + 1] + " " + text[place + 1:])
                    self.refuse(text[:place] + " " + text[place + 1:])
                    self.refuse(text[:place] + text[place + 1:])
        for text in ("\n", "\n\n", " ", "\r"):
            self.refuse(text)

    def test_a_row_twice(self):
        for text in TEXTS[1:]:
            rows = text.split("\n")
            for place in range(len(rows)):
                self.refuse("\n".join(rows[:place] + [rows[place]] + rows[place:]))

    def test_no_year_at_the_beginning(self):
        self.refuse("flat a 1")
        self.refuse("flat a 1\nyear 2031")
        self.refuse("flat a 1\nyear 2031\nflat a 1")

    def test_a_row_left_out_or_exchanged(self):
        self.refuse("\n".join(EIGHT))
        self.refuse("year 2031\nflat a 1\nflat a 2")
        self.refuse("year 2032\nflat a 1\nyear 2031\nflat a 2")
        self.refuse("flat a 1\nyear 2031\nyear 2032\nflat a 2")
        self.assertEqual(rows_by_year(book_of("year 2031\nflat b 1\nflat a 2")), [(2031, ["flat b 1", "flat a 2"])])
        self.assertEqual(rows_by_year(book_of("year 2031\nyear 2032\nflat a 2")), [(2031, []), (2032, ["flat a 2"])])

    def test_years_written_otherwise(self):
        for row in ("year 203", "year 20310", "year 02031", "year 0", "year 31", "year 10000", "year", "year ", "year  2031",
                    " year 2031", "year 2031 ", "year2031", "Year 2031", "YEAR 2031", "year 2o31", "year -031", "year +031",
                    "year 20 1", "year 203 ", "year  203", "year 2_31", "years 2031", "year:2031", "year\t2031", "2031", "jear 2031",
                    "year 2031 flat a 1", "year 2031-04", "year 2031\r", "year " + "1" * 5000):
            self.refuse(row)
            self.refuse(row + "\nflat a 1")
            self.refuse("year 0001\nflat a 1\n" + row)

    def test_years_that_dont_rise_or_stand_twice(self):
        self.refuse("year 2031\nyear 2031")
        self.refuse("year 2031\nflat a 1\nyear 2031")
        self.refuse("year 2031\nflat a 1\nyear 2031\nflat b 1")
        self.refuse("year 2032\nyear 2031")
        self.refuse("year 0001\nyear 0003\nyear 0002")
        self.refuse("year 9999\nyear 0000")

    def test_nine_rules(self):
        self.refuse("year 2031\n" + "\n".join(EIGHT) + "\nflat i 1")
        self.refuse("year 0001\nyear 2031\n" + "\n".join(EIGHT) + "\nflat i 1\nyear 2032")

    def test_two_names_alike(self):
        self.refuse("year 2031\nflat a 1\nflat a 1")
        self.refuse("year 2031\nflat a 1\nflat b 1\nshare a 1 up")
        self.refuse("year 2030\nyear 2031\nflat a 1\nflat a 2\nyear 2032")

    def test_rows_that_are_no_rules(self):
        for row in ("", " ", "none", "flat", "flat a", "flat a 01", "flat base 1", "flat a 1 ", " flat a 1", "Flat a 1", "share a 1 Up",
                    "share a 20001 up", "ontop a 1 up of " * 4 + "flat a 1", "flat a " + "1" * 5000, "ontop a 1 up of " * 5000):
            self.refuse(row) if row else None
            self.refuse("year 2031\n" + row)
            self.refuse("year 2031\n" + row + "\nflat b 1")
            self.refuse("year 2031\nflat b 1\n" + row)
            self.refuse("year 2031\n" + row + "\nyear 2032")

    def test_what_is_no_text(self):
        for thing in no_texts() + [["year 2031"], ("year 2031",), b"year 2031", b"", RuleBook(), {"year 2031": 1}]:
            self.refuse(thing)


if __name__ == "__main__":
    unittest.main()
