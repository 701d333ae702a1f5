import unittest
from decimal import Decimal

from coinroll.errors import BadAmount, BadText
from coinroll.texts import read_amount, rows_of, told_amount

from helper import no_numbers, no_texts

GREAT = 10 ** 1000

WRITTEN = [
    (0, "0.00"), (1, "0.01"), (9, "0.09"), (10, "0.10"), (99, "0.99"), (100, "1.00"), (101, "1.01"), (110, "1.10"),
    (999, "9.99"), (1000, "10.00"), (1205, "12.05"), (120000, "1200.00"), (123456789, "1234567.89"),
    (-1, "-0.01"), (-7, "-0.07"), (-10, "-0.10"), (-99, "-0.99"), (-100, "-1.00"), (-1205, "-12.05"),
    (10 ** 12, "10000000000.00"), (-10 ** 12 - 1, "-10000000000.01"),
]


class TestToldAmount(unittest.TestCase):
    def test_ordinary_amounts(self):
        for amount, text in WRITTEN:
            with self.subTest(amount):
                self.assertEqual(told_amount(amount), text)

    def test_very_great_amounts(self):
        self.assertEqual(told_amount(GREAT), "1" + "0" * 998 + ".00")
        self.assertEqual(told_amount(GREAT - 1), "9" * 998 + ".99")
        self.assertEqual(told_amount(-GREAT), "-1" + "0" * 998 + ".00")
        self.assertEqual(told_amount(1 - GREAT), "-" + "9" * 998 + ".99")
        self.assertEqual(told_amount(GREAT + 7), "1" + "0" * 998 + ".07")

    def test_amounts_of_any_length(self):
        for figures in list(range(15, 45)) + [998, 999, 1000, 1001, 4299, 4302, 4303, 9000]:
            with self.subTest(figures):
                self.assertEqual(told_amount(10 ** figures), "1" + "0" * (figures - 2) + ".00")
                self.assertEqual(told_amount(10 ** figures - 1), "9" * (figures - 2) + ".99")
        digits = "1234567890" * 99
        self.assertEqual(told_amount(int(digits)), digits[:-2] + "." + digits[-2:])

    def test_many_against_decimals(self):
        for amount in list(range(-1234, 1235)) + [10 ** 17 + 5, 10 ** 20 + 50, -10 ** 18 - 3, 7 * 10 ** 26 + 1]:
            self.assertEqual(told_amount(amount), f"{Decimal(amount).scaleb(-2):.2f}", amount)

    def test_what_is_no_amount(self):
        for thing in no_numbers():
            with self.assertRaises(BadAmount):
                told_amount(thing)


class TestReadAmount(unittest.TestCase):
    def refuse(self, text):
        with self.subTest(text=text[:60] if isinstance(text, str) else None):
            with self.assertRaises(BadText):
                read_amount(text)

    def test_ordinary_amounts(self):
        for amount, text in WRITTEN:
            with self.subTest(text):
                self.assertEqual(read_amount(text), amount)

    def test_what_is_told_is_read_back(self):
        amounts = list(range(-1234, 1235))
        for figures in range(29):
            amounts += [10 ** figures, 10 ** figures - 1, 10 ** figures + 1, 7 * 10 ** figures]
        for amount in amounts + [-amount for amount in amounts]:
            text = told_amount(amount)
            if len(text) <= 30:
                self.assertEqual(read_amount(text), amount)

    def test_thirty_signs_and_thirty_one(self):
        self.assertEqual(read_amount("9" * 27 + ".99"), 10 ** 29 - 1)
        self.assertEqual(read_amount("1" + "0" * 26 + ".00"), 10 ** 28)
        self.assertEqual(read_amount("-" + "9" * 26 + ".99"), 1 - 10 ** 28)
        self.refuse("9" * 28 + ".99")
        self.refuse("1" + "0" * 27 + ".00")
        self.refuse("-" + "9" * 27 + ".99")

    def test_texts_of_some_thousand_signs(self):
        for count in (31, 100, 998, 4299, 4300, 4301, 5000, 100000):
            self.refuse("1" * count)
            self.refuse("1" * count + ".00")
            self.refuse("-" + "1" * count + ".00")
            self.refuse("0." + "0" * count)
            self.refuse(" " * count)
            self.refuse("a" * count)

    def test_nought_below_nought(self):
        for text in ("-0.00", "-0", "-.00", "-", "--1.00", "-0.0", "-0.000"):
            self.refuse(text)

    def test_noughts_ahead(self):
        for text in ("00.00", "01.00", "-01.00", "000.05", "-00.07", "0012.05", "-00.00"):
            self.refuse(text)

    def test_figures_behind_the_point(self):
        for text in ("1.0", "1.", "1", "0", "12", "1.000", "1.234", "-1.5", "-1", "0.1", "100", "1200"):
            self.refuse(text)

    def test_points(self):
        for text in (".", ".00", ".05", "-.05", "..00", "1..00", "1.0.0", "1.00.", "1.00.00", "100.", ".100", "1,00",
                     "1:00", "1 00", "1-00", "1.-0", "1.0-", "1-.00"):
            self.refuse(text)

    def test_signs_and_blanks(self):
        for text in ("+1.00", "+0.00", " 1.00", "1.00 ", " 1.00 ", "1 .00", "1. 00", "- 1.00", " -1.00", "1.00\n", "\n1.00",
                     "1.00\r", "\t1.00", "1_0.00", "1,000.00", "1e2.00", "0x1.00", "a.00", "1.a0", "1.0a", "1a.00", "1.00-",
                     "", " ", "\n", "out", "None", "1.+0", "1.0 ", "1. 0"):
            self.refuse(text)

    def test_every_other_sign_at_every_place(self):
        for number in range(127):
            sign = chr(number)
            for place in range(5):
                text = "12.05"[:place] + sign + "12.05"[place + 1:]
                good = sign == "." if place == 2 else sign in ("-123456789" if place == 0 else "0123456789")
                if good:
                    self.assertEqual(told_amount(read_amount(text)), text)
                else:
                    self.refuse(text)

    def test_what_is_no_text(self):
        for thing in no_texts() + [["1.00"], ("1.00",), b"1.00", Decimal("1.00"), list("1.00"), tuple("1.00")]:
            self.refuse(thing)


class TestRowsOf(unittest.TestCase):
    def test_no_row(self):
        self.assertEqual(rows_of([]), [])

    def test_one_row(self):
        self.assertEqual(rows_of([["a"]]), ["a"])
        self.assertEqual(rows_of([["a", "b"]]), ["a  b"])
        self.assertEqual(rows_of([["one", "two", "three"]]), ["one  two  three"])

    def test_rows_of_no_text(self):
        self.assertEqual(rows_of([[]]), [""])
        self.assertEqual(rows_of([[], [], []]), ["", "", ""])

    def test_the_first_column_is_filled_up_behind_the_others_ahead(self):
        table = [["month", "base", "net"], ["2031-04", "1200.00", "-0.07"], ["sums", "5", "12345.67"]]
        self.assertEqual(rows_of(table), [
            "month       base       net",
            "2031-04  1200.00     -0.07",
            "sums           5  12345.67",
        ])

    def test_each_column_has_its_own_width(self):
        self.assertEqual(rows_of([["a", "bb", "c"], ["aaa", "b", "ccccc"]]), ["a    bb      c", "aaa   b  ccccc"])
        self.assertEqual(rows_of([["aaaa", "b"], ["a", "b"]]), ["aaaa  b", "a     b"])

    def test_one_column(self):
        self.assertEqual(rows_of([["a"], ["abc"], ["ab"]]), ["a", "abc", "ab"])

    def test_empty_texts(self):
        self.assertEqual(rows_of([[""]]), [""])
        self.assertEqual(rows_of([["", ""]]), [""])
        self.assertEqual(rows_of([["", "", ""], ["", "", ""]]), ["", ""])
        self.assertEqual(rows_of([["", "b"], ["aa", ""]]), ["    b", "aa"])
        self.assertEqual(rows_of([["a", "", "c"]]), ["a    c"])
        self.assertEqual(rows_of([["a", "", ""], ["", "", "c"]]), ["a", "     c"])

    def test_texts_with_blanks(self):
        self.assertEqual(rows_of([["a b", "c d"]]), ["a b  c d"])
        self.assertEqual(rows_of([[" a", " b"], ["c", "d"]]), [" a   b", "c    d"])
        self.assertEqual(rows_of([["a ", "b "], ["c", "d"]]), ["a   b", "c    d"])
        self.assertEqual(rows_of([["  ", "  "], ["a", "b"]]), ["", "a    b"])
        self.assertEqual(rows_of([["a   "], ["b"]]), ["a", "b"])

    def test_only_blanks_are_taken_from_the_end(self):
        self.assertEqual(rows_of([["a", "b."], ["c", "d-"]]), ["a  b.", "c  d-"])
        self.assertEqual(rows_of([["a\t"], ["b"]]), ["a\t", "b"])
        for number in range(33, 127):
            self.assertEqual(rows_of([["a", chr(number)]]), ["a  " + chr(number)])

    def test_the_table_stays_as_it_was(self):
        table = [["a ", "", "c"], ["longer", "b ", ""]]
        rows_of(table)
        self.assertEqual(table, [["a ", "", "c"], ["longer", "b ", ""]])

    def test_changing_the_told_list_changes_no_later_answer(self):
        table = [["a", "b"], ["cc", "dd"]]
        told = rows_of(table)
        told[0] = "other"
        told.append("more")
        self.assertEqual(rows_of(table), ["a    b", "cc  dd"])
        none = rows_of([])
        none.append("more")
        self.assertEqual(rows_of([]), [])

    def test_changing_the_table_changes_nothing_told(self):
        table = [["a", "b"], ["cc", "dd"]]
        told = rows_of(table)
        table[0][0] = "other"
        table.append(["e", "f"])
        self.assertEqual(told, ["a    b", "cc  dd"])


if __name__ == "__main__":
    unittest.main()
