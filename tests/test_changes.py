import unittest

from coinroll.changes import differences, statements, sums
from coinroll.errors import BadDay, BadMonth, NoPerson, NoYear
from coinroll.journal import Journal
from coinroll.reckoning import statement
from coinroll.rulebook import RuleBook

from helper import no_days, no_months, no_names

JANUARY = 2031 * 12
APRIL = JANUARY + 3


def a_book():
    book = RuleBook()
    book.put(2031, ["share tax 1000 down", "flat fee 3"])
    book.put(2032, ["share tax 2000 up"])
    book.put(2034, [])
    return book


def a_journal():
    journal = Journal()
    journal.put(0, "a", ("wage", "ann", APRIL, 0, 105))
    journal.put(0, "b", ("wage", "bob", 0, 0, 7))
    journal.put(2, "c", ("extra", "ann", APRIL + 1, 50))
    journal.put(4, "a", ("wage", "ann", APRIL, 0, 205))
    journal.put(6, "a", None)
    return journal


class TestStatements(unittest.TestCase):
    def told(self, first, last, day=0, person="ann"):
        return statements(a_book(), a_journal(), person, first, last, day)

    def test_one_month(self):
        self.assertEqual(self.told(APRIL, APRIL), [(APRIL, 105, (("fee", 3), ("tax", 10)), 92)])
        self.assertEqual(self.told(APRIL - 1, APRIL - 1), [(APRIL - 1, 0, (("fee", 0), ("tax", 0)), 0)])

    def test_the_months_ahead_in_the_year_count(self):
        self.assertEqual(self.told(APRIL + 1, APRIL + 2), [
            (APRIL + 1, 105, (("fee", 3), ("tax", 11)), 91), (APRIL + 2, 105, (("fee", 3), ("tax", 10)), 92),
        ])

    def test_over_a_years_end(self):
        self.assertEqual(self.told(JANUARY + 11, JANUARY + 13), [
            (JANUARY + 11, 105, (("fee", 3), ("tax", 10)), 92),
            (JANUARY + 12, 105, (("tax", 21),), 84),
            (JANUARY + 13, 105, (("tax", 21),), 84),
        ])
        self.assertEqual(self.told(JANUARY + 35, JANUARY + 36), [
            (JANUARY + 35, 105, (("tax", 21),), 84), (JANUARY + 36, 105, (), 105),
        ])

    def test_last_ahead_of_first(self):
        for first, last in ((APRIL, APRIL - 1), (APRIL, JANUARY), (APRIL, 0), (119999, 0), (JANUARY - 5, JANUARY - 6), (5, 0)):
            self.assertEqual(self.told(first, last), [])

    def test_as_of_older_days(self):
        self.assertEqual([one[1] for one in self.told(APRIL, APRIL + 1, 0)], [105, 105])
        self.assertEqual([one[1] for one in self.told(APRIL, APRIL + 1, 1)], [105, 105])
        self.assertEqual([one[1] for one in self.told(APRIL, APRIL + 1, 2)], [105, 155])
        self.assertEqual([one[1] for one in self.told(APRIL, APRIL + 1, 4)], [205, 255])
        self.assertEqual([one[1] for one in self.told(APRIL, APRIL + 1, 6)], [0, 50])
        self.assertEqual([one[1] for one in self.told(APRIL, APRIL + 1, 10 ** 1000)], [0, 50])

    def test_each_as_told_alone(self):
        book, journal = a_book(), a_journal()
        for day in (0, 2, 4, 6):
            told = statements(book, journal, "ann", JANUARY, JANUARY + 60, day)
            alone = [statement(book, month, journal.bases("ann", month, day)) for month in range(JANUARY, JANUARY + 61)]
            self.assertEqual(told, alone)

    def test_a_hundred_and_twenty_months_and_one_more(self):
        self.assertEqual([one[0] for one in self.told(JANUARY, JANUARY + 119)], list(range(JANUARY, JANUARY + 120)))
        self.assertEqual(len(self.told(119999 - 119, 119999)), 120)
        for first, last in ((JANUARY, JANUARY + 120), (JANUARY, 119999), (119999 - 120, 119999), (JANUARY - 1, JANUARY + 119)):
            with self.assertRaises(BadMonth):
                self.told(first, last)

    def test_days(self):
        for day in no_days():
            for person, first, last in (("ann", APRIL, APRIL), (None, None, None), ("eve", -1, -1), ("ann", 0, 119999)):
                with self.assertRaises(BadDay):
                    self.told(first, last, day, person)

    def test_persons(self):
        for person in no_names() + ["eve", "an"]:
            for first, last in ((APRIL, APRIL), (-1, -1), (None, APRIL), (0, 119999), (0, 0), (APRIL, 0)):
                with self.assertRaises(NoPerson):
                    self.told(first, last, 0, person)

    def test_a_person_who_isnt_known_any_more_or_yet(self):
        journal = Journal()
        journal.put(3, "a", ("wage", "ann", 0, 0, 5))
        journal.put(5, "a", None)
        for day in (0, 2, 5, 6):
            with self.assertRaises(NoPerson):
                statements(a_book(), journal, "ann", APRIL, APRIL, day)
        self.assertEqual(len(statements(a_book(), journal, "ann", APRIL, APRIL, 4)), 1)

    def test_months(self):
        for month in no_months():
            for good in (APRIL, 0, 119999):
                with self.assertRaises(BadMonth):
                    self.told(month, good)
                with self.assertRaises(BadMonth):
                    self.told(good, month)
            with self.assertRaises(BadMonth):
                self.told(month, month)

    def test_years_without_rules(self):
        for first, last in ((JANUARY - 1, JANUARY - 1), (JANUARY - 1, JANUARY), (JANUARY - 100, JANUARY + 19), (0, 0)):
            with self.assertRaises(NoYear):
                self.told(first, last)
        with self.assertRaises(NoYear):
            statements(RuleBook(), a_journal(), "ann", APRIL, APRIL, 0)
        self.assertEqual(statements(RuleBook(), a_journal(), "ann", APRIL, APRIL - 1, 0), [])

    def test_too_many_months_are_refused_ahead_of_no_year(self):
        with self.assertRaises(BadMonth):
            self.told(0, 120)
        with self.assertRaises(NoYear):
            self.told(0, 119)

    def test_book_and_journal_stay_as_they_were(self):
        book, journal = a_book(), a_journal()
        known = [journal.known(day) for day in range(8)]
        statements(book, journal, "ann", JANUARY, JANUARY + 50, 4).clear()
        self.assertEqual([journal.known(day) for day in range(8)], known)
        self.assertEqual([book.rows(year) for year in book.years()], [a_book().rows(year) for year in (2031, 2032, 2034)])
        self.assertEqual(len(statements(book, journal, "ann", JANUARY, JANUARY + 50, 4)), 51)

    def test_what_was_told_stays_as_it_was(self):
        book, journal = a_book(), a_journal()
        told = statements(book, journal, "bob", APRIL, APRIL, 9)
        book.put(2031, [])
        journal.put(9, "b", ("wage", "bob", 0, 0, 99))
        self.assertEqual(told, [(APRIL, 7, (("fee", 3), ("tax", 0)), 4)])
        self.assertEqual(statements(book, journal, "bob", APRIL, APRIL, 9), [(APRIL, 99, (), 99)])


class TestSums(unittest.TestCase):
    def test_none(self):
        self.assertEqual(sums([]), (0, (), 0))

    def test_one(self):
        self.assertEqual(sums([(5, 10, (), 10)]), (10, (), 10))
        self.assertEqual(sums([(5, 10, (("a", 1), ("b", 12)), -3)]), (10, (("a", 1), ("b", 12)), -3))

    def test_several(self):
        some = [(5, 10, (("a", 1), ("c", 2)), 7), (6, 20, (), 20), (7, 30, (("a", 3), ("b", 40)), -13)]
        self.assertEqual(sums(some), (60, (("a", 4), ("b", 40), ("c", 2)), 14))
        self.assertEqual(sums(some[::-1]), (60, (("a", 4), ("b", 40), ("c", 2)), 14))

    def test_dues_of_nought_are_told(self):
        self.assertEqual(sums([(5, 0, (("a", 0),), 0)]), (0, (("a", 0),), 0))
        self.assertEqual(sums([(5, 0, (("a", 4),), -4), (6, 0, (("a", -4),), 4)]), (0, (("a", 0),), 0))

    def test_very_great_ones(self):
        great = 10 ** 1000
        self.assertEqual(sums([(5, great, (("a", 1),), great - 1)] * 2), (2 * great, (("a", 2),), 2 * great - 2))

    def test_of_made_statements(self):
        some = statements(a_book(), a_journal(), "ann", JANUARY, JANUARY + 23, 4)
        base, dues, net = sums(some)
        self.assertEqual(base, 205 * 21 + 50)
        self.assertEqual(dues, (("fee", 27), ("tax", 189 + 492)))
        self.assertEqual(net, base - 27 - 189 - 492)

    def test_the_list_stays_as_it_was(self):
        some = [(6, 10, (("b", 1),), 9), (5, 20, (("a", 1),), 19)]
        sums(some)
        self.assertEqual(some, [(6, 10, (("b", 1),), 9), (5, 20, (("a", 1),), 19)])
        some.pop()
        self.assertEqual(sums(some), (10, (("b", 1),), 9))


class TestDifferences(unittest.TestCase):
    def test_none(self):
        self.assertEqual(differences([], []), [])

    def test_the_same(self):
        some = statements(a_book(), a_journal(), "ann", JANUARY, JANUARY + 50, 4)
        self.assertEqual(differences(some, some), [])
        self.assertEqual(differences(some, list(some)), [])

    def test_new_less_old(self):
        old = [(5, 10, (("tax", 1),), 9)]
        new = [(5, 30, (("tax", 5),), 25)]
        self.assertEqual(differences(old, new), [(5, "base", 20), (5, "net", 16), (5, "tax", 4)])
        self.assertEqual(differences(new, old), [(5, "base", -20), (5, "net", -16), (5, "tax", -4)])

    def test_names_rise_with_base_and_net_among_them(self):
        names = ["a", "basd", "basf", "nes", "neu", "z"]
        old = [(5, 0, tuple((name, 0) for name in names), 0)]
        new = [(5, 1, tuple((name, 2) for name in names), -11)]
        rows = [(5, "a", 2), (5, "basd", 2), (5, "base", 1), (5, "basf", 2), (5, "nes", 2), (5, "net", -11), (5, "neu", 2), (5, "z", 2)]
        self.assertEqual(differences(old, new), rows)

    def test_dues_that_one_side_hasnt(self):
        old = [(5, 10, (("a", 1), ("b", 2)), 7)]
        new = [(5, 10, (("b", 2), ("c", 4)), 4)]
        self.assertEqual(differences(old, new), [(5, "a", -1), (5, "c", 4), (5, "net", -3)])

    def test_noughts_are_left_out(self):
        old = [(5, 10, (("a", 0), ("b", 2)), 8)]
        new = [(5, 10, (("b", 2), ("c", 0)), 8)]
        self.assertEqual(differences(old, new), [])

    def test_by_months(self):
        old = [(5, 1, (), 1), (6, 1, (("a", 1),), 0), (7, 1, (), 1)]
        new = [(5, 2, (("z", 1),), 1), (6, 1, (), 1), (7, 3, (), 3)]
        rows = [(5, "base", 1), (5, "z", 1), (6, "a", -1), (6, "net", 1), (7, "base", 2), (7, "net", 2)]
        self.assertEqual(differences(old, new), rows)
        self.assertEqual(differences(old[::-1], new[::-1]), rows)

    def test_what_is_learnt_later(self):
        book, journal = a_book(), a_journal()
        old = statements(book, journal, "ann", APRIL, APRIL + 2, 0)
        new = statements(book, journal, "ann", APRIL, APRIL + 2, 2)
        self.assertEqual(differences(old, new), [(APRIL + 1, "base", 50), (APRIL + 1, "net", 45), (APRIL + 1, "tax", 5)])

    def test_other_months(self):
        one, two, three = (5, 1, (), 1), (6, 1, (), 1), (7, 1, (), 1)
        for old, new in (([one], []), ([], [one]), ([one], [two]), ([one, two], [one]), ([one], [one, two]), ([one, two], [two, one]),
                         ([one, two], [one, three]), ([one, two, three], [one, three]), ([one, one], [one])):
            with self.assertRaises(BadMonth):
                differences(old, new)

    def test_lists_stay_as_they_were(self):
        old, new = [(5, 1, (), 1)], [(5, 2, (("a", 1),), 1)]
        told = differences(old, new)
        self.assertEqual((old, new), ([(5, 1, (), 1)], [(5, 2, (("a", 1),), 1)]))
        told.clear()
        self.assertEqual(differences(old, new), [(5, "a", 1), (5, "base", 1)])
        new[0] = (5, 1, (), 1)
        self.assertEqual(differences(old, new), [])


if __name__ == "__main__":
    unittest.main()
