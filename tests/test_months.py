import unittest

from coinroll.errors import BadMonth, BadText, BadYear
from coinroll.months import month_text, months_of, need_month, need_year, place_of, read_month, span, year_of

from helper import no_months, no_texts, no_years

LAST = 119999
APRIL = 2031 * 12 + 3


class TestNeed(unittest.TestCase):
    def test_months(self):
        for month in (0, 1, 11, 12, APRIL, LAST - 1, LAST):
            self.assertIsNone(need_month(month))

    def test_no_months(self):
        for thing in no_months():
            with self.assertRaises(BadMonth):
                need_month(thing)

    def test_years(self):
        for year in (0, 1, 2031, 9998, 9999):
            self.assertIsNone(need_year(year))

    def test_no_years(self):
        for thing in no_years():
            with self.assertRaises(BadYear):
                need_year(thing)


class TestOneMonth(unittest.TestCase):
    def check(self, month, year, place, text):
        with self.subTest(text):
            self.assertEqual(year_of(month), year)
            self.assertEqual(place_of(month), place)
            self.assertEqual(month_text(month), text)
            self.assertEqual(read_month(text), month)

    def test_ordinary_months(self):
        self.check(APRIL, 2031, 4, "2031-04")
        self.check(APRIL + 6, 2031, 10, "2031-10")

    def test_december_and_january(self):
        self.check(APRIL + 8, 2031, 12, "2031-12")
        self.check(APRIL + 9, 2032, 1, "2032-01")
        self.check(11, 0, 12, "0000-12")
        self.check(12, 1, 1, "0001-01")

    def test_the_first_and_the_last(self):
        self.check(0, 0, 1, "0000-01")
        self.check(LAST, 9999, 12, "9999-12")

    def test_noughts_ahead_of_the_year(self):
        self.check(9 * 12, 9, 1, "0009-01")
        self.check(10 * 12 + 1, 10, 2, "0010-02")
        self.check(999 * 12 + 2, 999, 3, "0999-03")
        self.check(1000 * 12 + 8, 1000, 9, "1000-09")

    def test_all_months(self):
        months = []
        for year in range(10000):
            for place in range(1, 13):
                month = len(months)
                text = f"{year:04}-{place:02}"
                self.assertEqual((year_of(month), place_of(month), month_text(month)), (year, place, text))
                self.assertEqual(read_month(text), month)
                months.append(text)
        self.assertEqual(len(months), LAST + 1)

    def test_no_months(self):
        for thing in no_months():
            for told in (month_text, year_of, place_of):
                with self.assertRaises(BadMonth):
                    told(thing)


class TestReadMonth(unittest.TestCase):
    def refuse(self, text):
        with self.subTest(text=text[:20] if isinstance(text, str) else None):
            with self.assertRaises(BadText):
                read_month(text)

    def test_a_figure_more_or_less(self):
        for text in ("031-04", "12031-04", "02031-04", "2031-4", "2031-004", "2031-040", "2031-", "-04", "20310-4", "203-104",
                     "203104", "2031", "04", "", "-", "1-1", "9-01", "10000-01"):
            self.refuse(text)

    def test_places(self):
        for place in [0] + list(range(13, 100)):
            self.refuse(f"2031-{place:02}")
            self.refuse(f"0000-{place:02}")
            self.refuse(f"9999-{place:02}")

    def test_blanks_and_line_ends(self):
        for text in (" 2031-04", "2031-04 ", " 031-04", "2031- 4", "2031-4 ", "2031 -04", "2031- 04", "20 1-04", "2031-04\n",
                     "\n2031-04", "2031-4\n", "2031 04", "2031\n04"):
            self.refuse(text)

    def test_other_signs(self):
        for text in ("2031/04", "2031.04", "2031:04", "2031_04", "2031+04", "2031--4", "2031-+4", "+031-04", "-031-04", "2_31-04",
                     "2031-1_", "2031-_1", "abcd-ef", "2031-ab", "2o31-04", "2031-0x", "0x31-04", "1e31-04", "2031-Ap"):
            self.refuse(text)

    def test_every_other_sign_at_every_place(self):
        for number in range(127):
            sign = chr(number)
            for place in range(7):
                text = "2031-04"[:place] + sign + "2031-04"[place + 1:]
                good = sign in ("0123456789", "0123456789", "0123456789", "0123456789", "-", "01", "123456789")[place]
                if good and text != "2031-14":
                    self.assertEqual(month_text(read_month(text)), text)
                else:
                    self.refuse(text)

    def test_long_texts(self):
        for text in ("2" * 5000, "2" * 5000 + "-04", "2031-" + "0" * 5000 + "4", "2031-04" * 1000):
            self.refuse(text)

    def test_what_is_no_text(self):
        for thing in no_texts() + [APRIL, ["2031-04"], ("2031-04",), b"2031-04", list("2031-04"), tuple("2031-04")]:
            self.refuse(thing)


class TestMonthsOf(unittest.TestCase):
    def test_twelve_rising(self):
        self.assertEqual(months_of(0), [0, 1, 2, 3, 4, 5, 6, 7, 8, 9, 10, 11])
        self.assertEqual(months_of(1), list(range(12, 24)))
        self.assertEqual(months_of(2031), list(range(APRIL - 3, APRIL + 9)))
        self.assertEqual(months_of(9999), list(range(LAST - 11, LAST + 1)))

    def test_no_years(self):
        for thing in no_years():
            with self.assertRaises(BadYear):
                months_of(thing)

    def test_a_told_list_is_the_askers_own(self):
        told = months_of(2031)
        told[0] = -5
        told.append(1)
        self.assertEqual(months_of(2031), list(range(APRIL - 3, APRIL + 9)))


class TestSpan(unittest.TestCase):
    def test_one_month(self):
        for month in (0, APRIL, LAST):
            self.assertEqual(span(month, month), [month])

    def test_several_months(self):
        self.assertEqual(span(0, 3), [0, 1, 2, 3])
        self.assertEqual(span(APRIL, APRIL + 1), [APRIL, APRIL + 1])
        self.assertEqual(span(APRIL + 7, APRIL + 10), [APRIL + 7, APRIL + 8, APRIL + 9, APRIL + 10])
        self.assertEqual(span(LAST - 2, LAST), [LAST - 2, LAST - 1, LAST])

    def test_last_ahead_of_first(self):
        for first, last in ((1, 0), (APRIL, APRIL - 1), (LAST, 0), (LAST, LAST - 1), (5000, 3000)):
            self.assertEqual(span(first, last), [])

    def test_the_longest(self):
        for first in (0, APRIL, LAST - 1199):
            self.assertEqual(span(first, first + 1199), list(range(first, first + 1200)))
        for first, last in ((0, 1200), (APRIL, APRIL + 1200), (LAST - 1200, LAST), (0, LAST), (0, 1201)):
            with self.assertRaises(BadMonth):
                span(first, last)

    def test_no_months(self):
        for thing in no_months():
            for good in (0, APRIL, LAST):
                with self.assertRaises(BadMonth):
                    span(thing, good)
                with self.assertRaises(BadMonth):
                    span(good, thing)
            with self.assertRaises(BadMonth):
                span(thing, thing)

    def test_both_wrong_at_once(self):
        for first, last in ((-1, 120000), (None, -1), (True, "2031-04"), (120000, None), ([], {})):
            with self.assertRaises(BadMonth):
                span(first, last)

    def test_a_told_list_is_the_askers_own(self):
        told = span(5, 7)
        told[0] = 99
        told.append(1)
        self.assertEqual(span(5, 7), [5, 6, 7])
        none = span(7, 5)
        none.append(1)
        self.assertEqual(span(7, 5), [])


if __name__ == "__main__":
    unittest.main()
