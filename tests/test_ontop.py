import unittest

from coinroll.bands import Bands
from coinroll.coins import share_of
from coinroll.errors import BadRule
from coinroll.ontop import OnTop
from coinroll.rules import Capped, Flat, Least, Rule, Share

from helper import no_numbers, no_parts, no_rule_names, no_ways

WAYS = ("down", "up", "near", "even")

YEARS = [
    [], [0], [1], [3], [0, 0, 0], [0, 5, 0, 5], [1] * 12, [0] * 12, [120000] * 12,
    [333, 0, 1, 2, 99999, 5, 0, 0, 10 ** 10, 7, 1, 3],
]


def plain_rules():
    return [
        Flat("a", 3), Share("b", 5000, "up"), Capped("c", 3333, 90, "down"), Least("d", 100, 7, "near"),
        Bands("e", ((0, 1111), (4, 20000), (1000, 0)), "even"),
    ]


def deep(count):
    rule = Share("a", 5000, "up")
    for number in range(count):
        rule = OnTop("b", 9000, "near", rule)
    return rule


class TestUntil(unittest.TestCase):
    def test_a_share_of_what_is_due_by_the_rule_within(self):
        inner = Share("tax", 5000, "up")
        rule = OnTop("sol", 550, "down", inner)
        self.assertEqual([rule.until([base]) for base in (0, 1, 36, 37, 72, 73, 100000)], [0, 0, 0, 1, 1, 2, 2750])
        self.assertEqual(rule.until([50000, 0, 50000]), 2750)
        self.assertEqual(OnTop("sol", 20000, "up", Flat("a", 3)).until([1, 0, 5]), 12)
        self.assertEqual(OnTop("sol", 0, "up", Flat("a", 3)).until([1, 0, 5]), 0)
        self.assertEqual(OnTop("sol", 10000, "up", Flat("a", 3)).until([1, 0, 5]), 6)

    def test_what_is_due_within_is_rounded_ahead(self):
        self.assertEqual(OnTop("a", 5000, "down", Share("b", 5000, "up")).until([3]), 1)
        self.assertEqual(OnTop("a", 5000, "up", Share("b", 5000, "down")).until([3]), 1)
        self.assertEqual(OnTop("a", 20000, "near", Share("b", 5000, "down")).until([1]), 0)
        self.assertEqual(OnTop("a", 20000, "near", Share("b", 5000, "up")).until([1]), 2)

    def test_halves_by_each_way(self):
        for way, dues in (("down", [0, 1, 1, 2, 2]), ("up", [1, 1, 2, 2, 3]), ("near", [1, 1, 2, 2, 3]),
                          ("even", [0, 1, 2, 2, 2])):
            rule = OnTop("a", 5000, way, Share("b", 10000, "down"))
            self.assertEqual([rule.until([base]) for base in (1, 2, 3, 4, 5)], dues, way)

    def test_over_each_other_kind(self):
        for inner in plain_rules():
            for way in WAYS:
                for parts in (0, 1, 333, 5000, 10000, 20000):
                    rule = OnTop("z", parts, way, inner)
                    for bases in YEARS:
                        self.assertEqual(rule.until(bases), share_of(inner.until(bases), parts, way))

    def test_one_two_and_three_deep(self):
        for inner in plain_rules():
            one = OnTop("x", 7777, "up", inner)
            two = OnTop("y", 15000, "even", one)
            three = OnTop("z", 3333, "down", two)
            for bases in YEARS:
                due = share_of(inner.until(bases), 7777, "up")
                self.assertEqual(one.until(bases), due)
                due = share_of(due, 15000, "even")
                self.assertEqual(two.until(bases), due)
                self.assertEqual(three.until(bases), share_of(due, 3333, "down"))

    def test_the_months_sum_to_what_is_due_till_then(self):
        for inner in plain_rules() + [deep(1), deep(2)]:
            for way in WAYS:
                rule = OnTop("z", 3333, way, inner)
                for bases in YEARS:
                    months = [rule.of_month(bases[:count]) for count in range(1, len(bases) + 1)]
                    for count in range(len(bases) + 1):
                        self.assertEqual(sum(months[:count]), rule.until(bases[:count]))

    def test_no_month(self):
        for rule in (deep(1), deep(2), deep(3)):
            self.assertEqual((rule.until([]), rule.of_month([])), (0, 0))

    def test_what_is_due_of_a_month(self):
        rule = OnTop("a", 5000, "down", Share("b", 10000, "down"))
        self.assertEqual([rule.of_month([1] * count) for count in range(6)], [0, 0, 1, 0, 1, 0])

    def test_the_list_of_bases_stays_as_it_was_and_isnt_kept(self):
        rule = deep(3)
        bases = [50, 0, 70]
        told = (rule.until(bases), rule.of_month(bases))
        self.assertEqual(bases, [50, 0, 70])
        bases.clear()
        self.assertEqual((rule.until(bases), rule.of_month(bases)), (0, 0))
        self.assertEqual((rule.until([50, 0, 70]), rule.of_month([50, 0, 70])), told)


class TestMade(unittest.TestCase):
    def refuse(self, name, parts, way, rule):
        with self.assertRaises(BadRule):
            OnTop(name, parts, way, rule)

    def test_it_stands_under_rule(self):
        self.assertTrue(issubclass(OnTop, Rule))
        self.assertEqual(OnTop("abcdefgh", 1, "up", Flat("a", 1)).name, "abcdefgh")

    def test_three_deep_but_not_four(self):
        self.assertEqual(deep(3).row(), "ontop b 9000 near of " * 3 + "share a 5000 up")
        for way in WAYS:
            self.refuse("a", 1, way, deep(3))

    def test_the_outer_name_within(self):
        rule = OnTop("a", 5000, "up", OnTop("a", 5000, "up", Flat("a", 8)))
        self.assertEqual((rule.name, rule.until([1])), ("a", 2))

    def test_no_names(self):
        for name in no_rule_names():
            self.refuse(name, 1, "up", Flat("a", 1))
            self.refuse(name, 1, "up", deep(2))

    def test_names_that_no_rule_has_within(self):
        for name in ("base", "net", "month", "sums", "", "abcdefghi", "A", None):
            inner = Flat("a", 1)
            inner.name = name
            self.refuse("a", 1, "up", inner)
            outer = deep(1)
            outer.name = name
            self.refuse("a", 1, "up", outer)

    def test_no_parts(self):
        for parts in no_parts():
            self.refuse("a", parts, "up", Flat("a", 1))

    def test_no_ways(self):
        for way in no_ways():
            self.refuse("a", 1, way, Flat("a", 1))

    def test_no_rule_within(self):
        others = ["flat a 1", "", Flat, OnTop, [Flat("a", 1)], (Flat("a", 1),), {"rule": Flat("a", 1)}, 1, 0, Rule("a")]
        for thing in no_numbers() + others:
            self.refuse("a", 1, "up", thing)

    def test_all_wrong_at_once(self):
        self.refuse("net", -1, "no way", None)

    def test_a_refusal_changes_nothing(self):
        inner = deep(3)
        row = inner.row()
        self.refuse("a", 1, "up", inner)
        self.assertEqual(inner.row(), row)
        self.assertEqual(inner.until([100]), 37)

    def test_the_rule_within_is_not_kept_as_it_is(self):
        inner = Flat("a", 8)
        rule = OnTop("b", 5000, "up", inner)
        inner.name = "other"
        self.assertEqual(rule.row(), "ontop b 5000 up of flat a 8")
        self.assertEqual(inner.row(), "flat other 8")


class TestRow(unittest.TestCase):
    def test_over_each_other_kind(self):
        rows = ["flat a 3", "share b 5000 up", "capped c 3333 90 down", "least d 100 7 near",
                "bands e 0:1111,4:20000,1000:0 even"]
        for inner, row in zip(plain_rules(), rows):
            self.assertEqual(OnTop("sol", 550, "down", inner).row(), "ontop sol 550 down of " + row)
            self.assertEqual(inner.row(), row)

    def test_each_way_and_the_bounds(self):
        for way in WAYS:
            self.assertEqual(OnTop("a", 0, way, Flat("b", 1)).row(), "ontop a 0 " + way + " of flat b 1")
            self.assertEqual(OnTop("a", 20000, way, Flat("b", 1)).row(), "ontop a 20000 " + way + " of flat b 1")


if __name__ == "__main__":
    unittest.main()
