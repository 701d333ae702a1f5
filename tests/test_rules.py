import unittest

from coinroll.coins import share_of
from coinroll.errors import BadRule
from coinroll.rules import Capped, Flat, Least, Rule, Share

from helper import no_parts, no_rule_amounts, no_rule_names, no_ways

WAYS = ("down", "up", "near", "even")
MOST = 10 ** 12
PARTS = (0, 1, 333, 4999, 5000, 5001, 9999, 10000, 10001, 15000, 19999, 20000)

YEARS = [
    [], [0], [1], [3], [120000], [0, 0, 0], [0, 5, 0, 5], [1, 1, 1, 1, 1], [5, 0, 7, 0, 0, 9],
    [1] * 12, [0] * 12, [120000] * 12, [333, 0, 1, 2, 99999, 5, 0, 0, 10 ** 10, 7, 1, 3],
    [10 ** 1000, 1, 0, 10 ** 999],
]


def rules():
    made = []
    for way in WAYS:
        for parts in PARTS:
            made.append(Share("a", parts, way))
            for amount in (0, 1, 5, 1000, MOST):
                made.append(Capped("b", parts, amount, way))
                made.append(Least("c", parts, amount, way))
    return made + [Flat("d", amount) for amount in (0, 1, 500, MOST)]


class TestUntil(unittest.TestCase):
    def check(self, rule, *told):
        for bases, due in told:
            with self.subTest(rule.row(), bases=bases):
                self.assertEqual(rule.until(bases), due)

    def test_flat(self):
        self.check(Flat("fee", 500), ([], 0), ([0], 0), ([1], 500), ([0, 0], 0), ([7, 0, 1], 1000), ([1] * 12, 6000))
        self.check(Flat("fee", 0), ([], 0), ([1, 2], 0))
        self.check(Flat("fee", MOST), ([1], MOST), ([1] * 12, 12 * MOST))

    def test_share(self):
        self.check(Share("tax", 1000, "near"), ([], 0), ([0], 0), ([120000], 12000), ([4], 0), ([5], 1), ([2, 3], 1))
        self.check(Share("tax", 10000, "up"), ([7], 7), ([7, 0, 3], 10))
        self.check(Share("tax", 20000, "up"), ([7], 14), ([7, 0, 3], 20))
        self.check(Share("tax", 0, "up"), ([7], 0), ([7, 0, 3], 0))

    def test_a_share_by_each_way(self):
        for way, dues in (("down", [0, 1, 1, 2, 2]), ("up", [1, 1, 2, 2, 3]), ("near", [1, 1, 2, 2, 3]),
                          ("even", [0, 1, 2, 2, 2])):
            rule = Share("tax", 5000, way)
            self.assertEqual([rule.until([base]) for base in (1, 2, 3, 4, 5)], dues, way)
            self.assertEqual(rule.until([1, 1, 1]), dues[2], way)

    def test_one_part(self):
        for way, dues in (("down", [0, 0, 0, 1]), ("up", [1, 1, 1, 1]), ("near", [0, 1, 1, 1]), ("even", [0, 0, 1, 1])):
            rule = Share("tax", 1, way)
            self.assertEqual([rule.until([base]) for base in (4999, 5000, 5001, 10000)], dues, way)

    def test_the_bases_are_rounded_together(self):
        self.check(Share("tax", 5000, "down"), ([1, 1], 1), ([1, 1, 1, 1], 2))
        self.check(Share("tax", 5000, "up"), ([1, 1], 1), ([1, 1, 1], 2))

    def test_capped(self):
        rule = Capped("old", 1000, 100000, "near")
        self.check(rule, ([], 0), ([99990], 9999), ([100000], 10000), ([100010], 10000), ([60000, 60000], 10000))
        self.check(Capped("old", 1000, 0, "up"), ([5], 0), ([], 0))
        self.check(Capped("old", 5000, 3, "down"), ([2], 1), ([3], 1), ([4], 1), ([1, 1, 1, 1], 1))
        self.check(Capped("old", 20000, 3, "down"), ([2], 4), ([3], 6), ([4], 6))
        self.check(Capped("old", 10000, MOST, "down"), ([MOST - 1], MOST - 1), ([MOST], MOST), ([MOST, 1], MOST))

    def test_least(self):
        rule = Least("club", 1000, 700, "near")
        self.check(rule, ([], 0), ([0], 0), ([1], 700), ([6990], 700), ([7000], 700), ([7010], 701), ([7005], 701))
        self.check(rule, ([1, 1], 1400), ([10000, 0, 1], 1400), ([10000, 0, 4000], 1400), ([10000, 0, 4100], 1410))
        self.check(Least("club", 0, 5, "up"), ([1, 0, 1], 10), ([0], 0))
        self.check(Least("club", 5000, 0, "down"), ([5], 2), ([1], 0))
        self.check(Least("club", 5000, 0, "up"), ([5], 3), ([1], 1))
        self.check(Least("club", 1, MOST, "up"), ([1] * 12, 12 * MOST))

    def test_what_is_told_of_many(self):
        for bases in YEARS:
            total = sum(bases)
            count = sum(1 for base in bases if base > 0)
            for rule in rules():
                if isinstance(rule, Flat):
                    due = rule.amount * count
                elif isinstance(rule, Share):
                    due = share_of(total, rule.parts, rule.way)
                elif isinstance(rule, Capped):
                    due = min(share_of(total, rule.parts, rule.way), share_of(rule.most, rule.parts, rule.way))
                else:
                    due = max(share_of(total, rule.parts, rule.way), rule.least * count)
                self.assertEqual(rule.until(bases), due, (rule.row(), bases))


class TestOfMonth(unittest.TestCase):
    def test_no_month(self):
        for rule in rules():
            self.assertEqual(rule.of_month([]), 0)
            self.assertEqual(rule.until([]), 0)

    def test_the_last_month_less_what_was_due_ahead_of_it(self):
        rule = Share("tax", 5000, "down")
        self.assertEqual([rule.of_month([1] * count) for count in range(1, 6)], [0, 1, 0, 1, 0])
        rule = Share("tax", 5000, "up")
        self.assertEqual([rule.of_month([1] * count) for count in range(1, 6)], [1, 0, 1, 0, 1])
        rule = Capped("old", 1000, 1000, "near")
        self.assertEqual([rule.of_month([400] * count) for count in range(1, 5)], [40, 40, 20, 0])
        rule = Least("club", 1000, 50, "near")
        self.assertEqual([rule.of_month([400, 1000, 0, 700][:count]) for count in range(1, 5)], [50, 90, 0, 70])
        rule = Flat("fee", 9)
        self.assertEqual([rule.of_month([5, 0, 0, 1][:count]) for count in range(1, 5)], [9, 0, 0, 9])

    def test_the_months_sum_to_what_is_due_till_then(self):
        for rule in rules():
            for bases in YEARS:
                months = [rule.of_month(bases[:count]) for count in range(1, len(bases) + 1)]
                for count in range(len(bases) + 1):
                    self.assertEqual(sum(months[:count]), rule.until(bases[:count]), (rule.row(), bases))


class TestBases(unittest.TestCase):
    def test_the_list_stays_as_it_was(self):
        for rule in rules():
            bases = [5, 0, 7]
            rule.until(bases)
            rule.of_month(bases)
            self.assertEqual(bases, [5, 0, 7])

    def test_nothing_is_kept_of_it(self):
        for rule in (Flat("a", 3), Share("a", 5000, "up"), Capped("a", 10000, 9, "up"), Least("a", 5000, 4, "up")):
            bases = [5, 0, 7]
            until = rule.until(bases)
            month = rule.of_month(bases)
            bases.clear()
            self.assertEqual((rule.until(bases), rule.of_month(bases)), (0, 0))
            bases.extend([5, 0, 7])
            self.assertEqual((rule.until(bases), rule.of_month(bases)), (until, month))
            bases[2] = 70
            self.assertNotEqual((rule.until(bases), rule.of_month(bases)), (0, 0))
            self.assertEqual((rule.until([5, 0, 7]), rule.of_month([5, 0, 7])), (until, month))


class TestMade(unittest.TestCase):
    def refuse(self, make):
        with self.assertRaises(BadRule):
            make()

    def test_all_stand_under_rule(self):
        for kind in (Flat, Share, Capped, Least):
            self.assertTrue(issubclass(kind, Rule))
            self.assertIsNot(kind, Rule)
        for rule in rules():
            self.assertIsInstance(rule, Rule)

    def test_names(self):
        for name in ("a", "z", "tax", "abcdefgh", "zzzzzzzz", "bas", "bases", "nett", "months", "sum", "flat", "of"):
            self.assertEqual(Flat(name, 1).name, name)
            self.assertEqual(Share(name, 1, "up").name, name)
            self.assertEqual(Capped(name, 1, 1, "up").name, name)
            self.assertEqual(Least(name, 1, 1, "up").name, name)

    def test_no_names(self):
        for name in no_rule_names():
            self.refuse(lambda: Rule(name))
            self.refuse(lambda: Flat(name, 1))
            self.refuse(lambda: Share(name, 1, "up"))
            self.refuse(lambda: Capped(name, 1, 1, "up"))
            self.refuse(lambda: Least(name, 1, 1, "up"))

    def test_no_parts(self):
        for parts in no_parts():
            self.refuse(lambda: Share("a", parts, "up"))
            self.refuse(lambda: Capped("a", parts, 1, "up"))
            self.refuse(lambda: Least("a", parts, 1, "up"))

    def test_no_amounts(self):
        for amount in no_rule_amounts():
            self.refuse(lambda: Flat("a", amount))
            self.refuse(lambda: Capped("a", 1, amount, "up"))
            self.refuse(lambda: Least("a", 1, amount, "up"))

    def test_no_ways(self):
        for way in no_ways():
            self.refuse(lambda: Share("a", 1, way))
            self.refuse(lambda: Capped("a", 1, 1, way))
            self.refuse(lambda: Least("a", 1, 1, way))

    def test_all_wrong_at_once(self):
        self.refuse(lambda: Flat(None, None))
        self.refuse(lambda: Share("net", -1, "no way"))
        self.refuse(lambda: Capped("", 20001, -1, None))
        self.refuse(lambda: Least(1, True, MOST + 1, "Up"))

    def test_a_rule_that_is_refused_changes_nothing(self):
        rule = Share("a", 5000, "up")
        self.refuse(lambda: Share("a", 5000, "sideways"))
        self.assertEqual((rule.name, rule.row(), rule.until([3])), ("a", "share a 5000 up", 2))


class TestRow(unittest.TestCase):
    def test_each_kind(self):
        self.assertEqual(Flat("fee", 500).row(), "flat fee 500")
        self.assertEqual(Share("tax", 1250, "near").row(), "share tax 1250 near")
        self.assertEqual(Capped("old", 930, 600000, "even").row(), "capped old 930 600000 even")
        self.assertEqual(Least("club", 100, 700, "down").row(), "least club 100 700 down")

    def test_the_bounds(self):
        self.assertEqual(Flat("a", 0).row(), "flat a 0")
        self.assertEqual(Flat("abcdefgh", MOST).row(), "flat abcdefgh 1000000000000")
        self.assertEqual(Share("a", 0, "up").row(), "share a 0 up")
        self.assertEqual(Capped("a", 20000, MOST, "up").row(), "capped a 20000 1000000000000 up")
        self.assertEqual(Least("a", 1, 0, "up").row(), "least a 1 0 up")

    def test_each_way(self):
        for way in WAYS:
            self.assertEqual(Share("a", 10, way).row(), "share a 10 " + way)
            self.assertEqual(Capped("a", 10, 20, way).row(), "capped a 10 20 " + way)
            self.assertEqual(Least("a", 10, 20, way).row(), "least a 10 20 " + way)


if __name__ == "__main__":
    unittest.main()
