import unittest

from coinroll.bands import Bands
from coinroll.errors import BadMonth, NoYear
from coinroll.ontop import OnTop
from coinroll.reckoning import dues_of, statement, year_table
from coinroll.rulebook import RuleBook
from coinroll.rules import Capped, Flat, Least, Share

from helper import no_months

YEARS = [
    [], [0], [1], [3], [0, 0, 0], [0, 5, 0, 5], [1] * 12, [0] * 12, [120000] * 12,
    [333, 0, 1, 2, 99999, 5, 0, 0, 10 ** 10, 7, 1, 3], [10 ** 1000, 1],
]
JANUARY = 2031 * 12


def eight():
    return [
        Share("tax", 1234, "near"), Flat("fee", 50), Capped("old", 930, 600, "up"), Least("club", 100, 7, "down"),
        Bands("inc", ((0, 0), (100, 1500), (1000, 4200)), "even"), OnTop("sol", 550, "down", Share("tax", 1234, "near")),
        Share("a", 20000, "up"), OnTop("zz", 9, "up", OnTop("a", 1, "near", Flat("b", 10 ** 9))),
    ]


class TestDuesOf(unittest.TestCase):
    def test_no_rule(self):
        for bases in YEARS:
            self.assertEqual(dues_of([], bases), ())

    def test_one_rule(self):
        rule = Share("tax", 5000, "down")
        self.assertEqual(dues_of([rule], [3]), (("tax", 1),))
        self.assertEqual(dues_of([rule], [3, 3]), (("tax", 2),))
        self.assertEqual(dues_of([rule], [3, 0]), (("tax", 0),))

    def test_no_month(self):
        self.assertEqual(dues_of([Flat("b", 5), Share("a", 9, "up")], []), (("a", 0), ("b", 0)))
        self.assertEqual(dues_of(eight(), []), tuple((name, 0) for name in
                                                     ("a", "club", "fee", "inc", "old", "sol", "tax", "zz")))

    def test_by_names_rising_in_whatever_order_they_were_told(self):
        rules = [Flat("b", 2), Flat("c", 3), Flat("ab", 9), Flat("a", 1)]
        dues = (("a", 1), ("ab", 9), ("b", 2), ("c", 3))
        for turn in range(4):
            self.assertEqual(dues_of(rules[turn:] + rules[:turn], [5]), dues)
            self.assertEqual(dues_of((rules[turn:] + rules[:turn])[::-1], [5]), dues)

    def test_eight_of_all_kinds(self):
        for bases in YEARS:
            dues = dues_of(eight(), bases)
            self.assertEqual(dues, tuple(sorted((rule.name, rule.of_month(bases)) for rule in eight())))
            self.assertEqual(dues_of(eight()[::-1], bases), dues)

    def test_tuples_of_pairs(self):
        dues = dues_of(eight(), [5, 6])
        self.assertIsInstance(dues, tuple)
        for pair in dues:
            self.assertIsInstance(pair, tuple)
            self.assertEqual(len(pair), 2)


class TestYearTable(unittest.TestCase):
    def test_no_month(self):
        self.assertEqual(year_table(eight(), []), [])
        self.assertEqual(year_table([], []), [])

    def test_no_rule(self):
        self.assertEqual(year_table([], [5, 0, 7]), [(5, (), 5), (0, (), 0), (7, (), 7)])

    def test_ordinary_months(self):
        rules = [Share("tax", 5000, "down"), Flat("fee", 2)]
        self.assertEqual(year_table(rules, [3, 0, 3, 1]), [
            (3, (("fee", 2), ("tax", 1)), 0),
            (0, (("fee", 0), ("tax", 0)), 0),
            (3, (("fee", 2), ("tax", 2)), -1),
            (1, (("fee", 2), ("tax", 0)), -1),
        ])

    def test_a_net_below_nought(self):
        self.assertEqual(year_table([Flat("a", 100), Share("b", 20000, "up")], [7]), [(7, (("a", 100), ("b", 14)), -107)])

    def test_over_a_year_nothing_is_lost(self):
        for bases in YEARS:
            table = year_table(eight(), bases)
            self.assertEqual([row[0] for row in table], bases)
            for place, rule in enumerate(sorted(eight(), key=lambda rule: rule.name)):
                self.assertEqual([row[1][place][0] for row in table], [rule.name] * len(bases))
                self.assertEqual(sum(row[1][place][1] for row in table), rule.until(bases))
            taken = sum(due for row in table for name, due in row[1])
            self.assertEqual(taken + sum(row[2] for row in table), sum(bases))
            for base, dues, net in table:
                self.assertEqual(net, base - sum(due for name, due in dues))


class TestStatement(unittest.TestCase):
    def setUp(self):
        self.book = RuleBook()
        self.book.put(2031, ["share tax 5000 down", "flat fee 2"])
        self.book.put(2033, [])
        self.book.put(2035, ["flat a 1"])

    def test_ordinary_months(self):
        self.assertEqual(statement(self.book, JANUARY, [3]), (JANUARY, 3, (("fee", 2), ("tax", 1)), 0))
        self.assertEqual(statement(self.book, JANUARY + 1, [3, 3]), (JANUARY + 1, 3, (("fee", 2), ("tax", 2)), -1))
        self.assertEqual(statement(self.book, JANUARY + 11, [3] * 12), (JANUARY + 11, 3, (("fee", 2), ("tax", 2)), -1))
        self.assertEqual(statement(self.book, JANUARY + 1, [3, 0]), (JANUARY + 1, 0, (("fee", 0), ("tax", 0)), 0))

    def test_no_base(self):
        self.assertEqual(statement(self.book, JANUARY, []), (JANUARY, 0, (("fee", 0), ("tax", 0)), 0))

    def test_months_between_and_behind_the_years_told(self):
        self.assertEqual(statement(self.book, JANUARY + 12, [4]), (JANUARY + 12, 4, (("fee", 2), ("tax", 2)), 0))
        self.assertEqual(statement(self.book, JANUARY + 24, [4]), (JANUARY + 24, 4, (), 4))
        self.assertEqual(statement(self.book, JANUARY + 36, [4]), (JANUARY + 36, 4, (), 4))
        self.assertEqual(statement(self.book, JANUARY + 48, [4]), (JANUARY + 48, 4, (("a", 1),), 3))
        self.assertEqual(statement(self.book, 119999, [4] * 12), (119999, 4, (("a", 1),), 3))

    def test_months_ahead_of_the_years_told(self):
        for month in (0, JANUARY - 12, JANUARY - 1):
            with self.assertRaises(NoYear):
                statement(self.book, month, [4] * (month % 12 + 1))
        with self.assertRaises(NoYear):
            statement(RuleBook(), JANUARY, [4])

    def test_no_months_ahead_of_no_year(self):
        for month in no_months():
            with self.assertRaises(BadMonth):
                statement(self.book, month, [4])
            with self.assertRaises(BadMonth):
                statement(RuleBook(), month, [4])

    def test_the_same_as_in_the_table_of_the_year(self):
        book = RuleBook()
        book.put(2031, [rule.row() for rule in eight()])
        for bases in YEARS:
            for count, row in enumerate(year_table(eight(), bases), start=1):
                self.assertEqual(statement(book, JANUARY + count - 1, bases[:count]), (JANUARY + count - 1,) + row)


class TestOwnLists(unittest.TestCase):
    def test_lists_handed_in_stay_as_they_were(self):
        rules = eight()
        kept = list(rules)
        bases = [5, 0, 7]
        book = RuleBook()
        book.put(2031, ["flat a 1"])
        dues_of(rules, bases)
        year_table(rules, bases)
        statement(book, JANUARY + 2, bases)
        self.assertEqual(rules, kept)
        self.assertEqual([rule.row() for rule in rules], [rule.row() for rule in eight()])
        self.assertEqual(bases, [5, 0, 7])
        self.assertEqual(book.rows(2031), ["flat a 1"])

    def test_a_rule_fewer_in_the_same_list(self):
        rules = [Flat("b", 2), Flat("a", 1)]
        self.assertEqual(dues_of(rules, [5]), (("a", 1), ("b", 2)))
        self.assertEqual(year_table(rules, [5]), [(5, (("a", 1), ("b", 2)), 2)])
        rules.pop()
        self.assertEqual(dues_of(rules, [5]), (("b", 2),))
        self.assertEqual(year_table(rules, [5]), [(5, (("b", 2),), 3)])
        rules[0] = Flat("c", 4)
        self.assertEqual(dues_of(rules, [5]), (("c", 4),))

    def test_other_bases_in_the_same_list(self):
        rules = [Share("a", 5000, "down")]
        bases = [2, 4]
        table = year_table(rules, bases)
        bases[1] = 8
        self.assertEqual(dues_of(rules, bases), (("a", 4),))
        self.assertEqual(table, [(2, (("a", 1),), 1), (4, (("a", 2),), 2)])
        self.assertEqual(year_table(rules, bases), [(2, (("a", 1),), 1), (8, (("a", 4),), 4)])

    def test_a_told_list_is_the_askers_own(self):
        rules = [Flat("a", 1)]
        table = year_table(rules, [5])
        table.clear()
        self.assertEqual(year_table(rules, [5]), [(5, (("a", 1),), 4)])


if __name__ == "__main__":
    unittest.main()
