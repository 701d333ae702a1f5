import unittest

from coinroll.errors import BadBook, BadRule, BadYear, NoYear
from coinroll.rulebook import RuleBook
from coinroll.rules import Rule

from helper import no_numbers, no_texts, no_years

EIGHT = [
    "flat h 1", "share g 1000 near", "capped f 900 5000 up", "least e 100 7 even", "bands d 0:0,100:1000 down",
    "ontop c 550 down of share b 1000 near", "flat b 0", "flat a 1000000000000",
]


def book_with(*told):
    book = RuleBook()
    for year, rows in told:
        book.put(year, rows)
    return book


class TestTold(unittest.TestCase):
    def check(self, book, year, rows):
        with self.subTest(year):
            self.assertEqual(book.rows(year), rows)
            rules = book.rules(year)
            self.assertIsInstance(rules, list)
            self.assertTrue(all(isinstance(rule, Rule) for rule in rules))
            self.assertEqual([rule.row() for rule in rules], rows)
            self.assertEqual([rule.name for rule in rules], [row.split(" ")[1] for row in rows])

    def test_put_tells_none(self):
        self.assertIsNone(RuleBook().put(2031, ["flat a 1"]))

    def test_the_order_in_which_they_were_told(self):
        for count in range(9):
            self.check(book_with((2031, EIGHT[:count])), 2031, EIGHT[:count])
            self.check(book_with((2031, EIGHT[::-1][:count])), 2031, EIGHT[::-1][:count])

    def test_dues_of_the_told_rules(self):
        rules = book_with((2031, EIGHT)).rules(2031)
        self.assertEqual([rule.until([1000, 0, 2000]) for rule in rules], [2, 300, 270, 30, 290, 16, 0, 2 * 10 ** 12])

    def test_a_new_book(self):
        book = RuleBook()
        self.assertEqual(book.years(), [])
        for year in (0, 2031, 9999):
            with self.assertRaises(NoYear):
                book.rules(year)
            with self.assertRaises(NoYear):
                book.rows(year)

    def test_years_ahead_of_between_and_behind_those_told(self):
        book = book_with((2031, ["flat a 1"]), (2040, ["flat b 2"]), (2035, ["flat c 3"]))
        for year in (0, 2029, 2030):
            for told in (book.rules, book.rows):
                with self.assertRaises(NoYear):
                    told(year)
        for year in (2031, 2032, 2034):
            self.check(book, year, ["flat a 1"])
        for year in (2035, 2036, 2039):
            self.check(book, year, ["flat c 3"])
        for year in (2040, 2041, 9999):
            self.check(book, year, ["flat b 2"])

    def test_a_year_told_with_no_rules(self):
        book = book_with((2031, ["flat a 1"]), (2033, []), (2035, ["flat b 2"]))
        self.check(book, 2032, ["flat a 1"])
        self.check(book, 2033, [])
        self.check(book, 2034, [])
        self.check(book, 2035, ["flat b 2"])
        self.assertEqual(book.years(), [2031, 2033, 2035])
        first = book_with((2031, []))
        self.check(first, 2031, [])
        self.check(first, 9999, [])
        with self.assertRaises(NoYear):
            first.rows(2030)

    def test_the_first_year_and_the_last(self):
        book = book_with((9999, ["flat b 2"]), (0, ["flat a 1"]))
        self.assertEqual(book.years(), [0, 9999])
        for year in (0, 1, 9998):
            self.check(book, year, ["flat a 1"])
        self.check(book, 9999, ["flat b 2"])

    def test_years_rise_in_whatever_order_they_were_told(self):
        for years in ([1, 2, 3], [3, 2, 1], [2, 3, 1], [2, 1, 3, 2], [1, 1]):
            book = book_with(*[(year, []) for year in years])
            self.assertEqual(book.years(), sorted(set(years)))

    def test_told_anew(self):
        book = book_with((2031, EIGHT), (2032, ["flat z 1"]))
        book.put(2031, ["flat y 2"])
        self.check(book, 2031, ["flat y 2"])
        self.check(book, 2032, ["flat z 1"])
        book.put(2031, [])
        self.check(book, 2031, [])
        book.put(2031, EIGHT)
        self.check(book, 2031, EIGHT)
        self.assertEqual(book.years(), [2031, 2032])

    def test_the_same_name_in_other_years_and_within_others(self):
        book = book_with((2031, ["flat a 1", "ontop b 1 up of flat a 1"]), (2032, ["flat a 2"]))
        self.check(book, 2031, ["flat a 1", "ontop b 1 up of flat a 1"])
        self.check(book, 2032, ["flat a 2"])

    def test_books_beside_one_another(self):
        one = book_with((2031, ["flat a 1"]))
        other = RuleBook()
        self.assertEqual(other.years(), [])
        other.put(2031, ["flat b 2"])
        self.check(one, 2031, ["flat a 1"])


class TestRefused(unittest.TestCase):
    def setUp(self):
        self.book = book_with((2031, ["flat a 1", "flat b 2"]), (2033, []))

    def refuse(self, kind, year, rows):
        with self.assertRaises(kind):
            self.book.put(year, rows)
        self.assertEqual(self.book.years(), [2031, 2033])
        self.assertEqual(self.book.rows(2031), ["flat a 1", "flat b 2"])
        self.assertEqual(self.book.rows(2032), ["flat a 1", "flat b 2"])
        self.assertEqual(self.book.rows(2033), [])

    def test_years(self):
        for year in no_years():
            self.refuse(BadYear, year, ["flat c 1"])
            for told in (self.book.rules, self.book.rows):
                with self.assertRaises(BadYear):
                    told(year)
                with self.assertRaises(BadYear):
                    getattr(RuleBook(), told.__name__)(year)

    def test_no_list(self):
        odd = [thing for thing in no_numbers() if not isinstance(thing, list)]
        for rows in odd + [("flat c 1",), "flat c 1", {"flat c 1": 1}, {"flat c 1"}, iter(["flat c 1"]), 5]:
            self.refuse(BadBook, 2031, rows)
            self.refuse(BadBook, 2032, rows)

    def test_eight_rows_and_nine(self):
        self.refuse(BadBook, 2031, EIGHT + ["flat i 1"])
        self.refuse(BadBook, 2031, EIGHT * 1000)
        self.book.put(2031, EIGHT)
        self.assertEqual(self.book.rows(2031), EIGHT)

    def test_rows_that_are_no_rules(self):
        for row in no_texts() + ["", "flat", "flat a", "flat base 1", "flat c 01", "flat c 1\n", " flat c 1", "share c 20001 up"]:
            self.refuse(BadRule, 2031, [row])
            self.refuse(BadRule, 2031, ["flat c 1", row])
            self.refuse(BadRule, 2034, [row, "flat c 1"])
            self.refuse(BadRule, 2034, EIGHT[:7] + [row])

    def test_two_names_alike(self):
        self.refuse(BadBook, 2031, ["flat c 1", "flat c 1"])
        self.refuse(BadBook, 2031, ["flat c 1", "flat d 1", "share c 1 up"])
        self.refuse(BadBook, 2034, ["ontop c 1 up of flat d 1", "flat c 1"])
        self.refuse(BadBook, 2034, EIGHT[:7] + ["flat h 2"])

    def test_of_two_wrong_things_the_one_told_first(self):
        for year in (-1, 10000, None, True):
            for rows in (None, (), EIGHT + ["flat i 1"], ["none"], [None], ["flat c 1", "flat c 1"]):
                self.refuse(BadYear, year, rows)
        self.refuse(BadBook, 2031, ["none"] * 9)
        self.refuse(BadBook, 2031, [None] * 9)
        self.refuse(BadBook, 2031, ["flat c 1"] * 9)
        self.refuse(BadRule, 2031, ["flat c 1", "flat c 1", "none"])
        self.refuse(BadRule, 2031, ["none", "flat c 1", "flat c 1"])
        self.refuse(BadRule, 2031, ["flat c 1", None, "flat c 1"])

    def test_no_year_ahead(self):
        for year in (0, 2030):
            with self.assertRaises(NoYear):
                self.book.rules(year)
            with self.assertRaises(NoYear):
                self.book.rows(year)


class TestOwnLists(unittest.TestCase):
    def test_the_list_handed_in_stays_as_it_was(self):
        rows = list(EIGHT)
        book = book_with((2031, rows))
        book.rules(2031)
        self.assertEqual(rows, EIGHT)

    def test_the_list_handed_in_changed_afterwards(self):
        rows = list(EIGHT)
        book = book_with((2031, rows))
        rows[0] = "none"
        rows.append("flat i 1")
        self.assertEqual(book.rows(2031), EIGHT)
        rows.clear()
        self.assertEqual(book.rows(2031), EIGHT)
        self.assertEqual(len(book.rules(2031)), 8)

    def test_told_lists_may_be_changed(self):
        book = book_with((2031, EIGHT))
        for told in (book.rows, book.rules, lambda year: book.years()):
            told(2031).clear()
            told(2032).append("flat z 1")
            told(2031)[0] = "none"
        self.assertEqual(book.rows(2031), EIGHT)
        self.assertEqual([rule.row() for rule in book.rules(2031)], EIGHT)
        self.assertEqual(book.years(), [2031])

    def test_told_rules_may_be_changed(self):
        book = book_with((2031, EIGHT))
        for rule in book.rules(2031):
            rule.name = "other"
        self.assertEqual([rule.row() for rule in book.rules(2031)], EIGHT)

    def test_what_was_told_stays_as_it_was(self):
        book = book_with((2031, EIGHT))
        rows = book.rows(2031)
        rules = book.rules(2031)
        years = book.years()
        book.put(2031, ["flat z 1"])
        book.put(2030, [])
        self.assertEqual(rows, EIGHT)
        self.assertEqual([rule.row() for rule in rules], EIGHT)
        self.assertEqual(years, [2031])


if __name__ == "__main__":
    unittest.main()
