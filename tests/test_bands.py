import unittest

from coinroll.bands import Bands
from coinroll.coins import rounded, share_of
from coinroll.errors import BadRule
from coinroll.rules import Rule

from helper import no_numbers, no_parts, no_rule_amounts, no_rule_names, no_ways

WAYS = ("down", "up", "near", "even")
MOST = 10 ** 12
TWELVE = tuple((place * 100, place * 700) for place in range(12))

SOME = [
    ((0, 0),), ((0, 5000),), ((0, 20000),), ((0, 1000), (100, 2000)), ((0, 0), (10, 10000)), ((0, 20000), (1, 0)),
    ((0, 3333), (7, 6667), (8, 1), (1000, 15000)), ((0, 1), (MOST, 20000)), TWELVE,
]


def coin_by_coin(rows, total):
    """So many ten-thousandths, each coin looked up in its own band."""
    together = 0
    for coin in range(total):
        together += [parts for border, parts in rows if border <= coin][-1]
    return together


class TestUntil(unittest.TestCase):
    def check(self, rows, way, *told):
        for total, due in told:
            with self.subTest(rows, total=total):
                self.assertEqual(Bands("a", rows, way).until([total]), due)

    def test_one_band_is_a_share(self):
        for way in WAYS:
            for parts in (0, 1, 5000, 9999, 20000):
                for total in (0, 1, 3, 5, 4999, 120001, 10 ** 1000 + 1):
                    self.assertEqual(Bands("a", ((0, parts),), way).until([total]), share_of(total, parts, way))

    def test_ordinary_bands(self):
        rows = ((0, 0), (1000, 1000), (5000, 2000))
        self.check(rows, "near", (0, 0), (999, 0), (1000, 0), (1010, 1), (2000, 100), (5000, 400), (6000, 600))
        self.check(rows, "near", (1004, 0), (1005, 1), (4990, 399), (5005, 401), (105000, 20400))

    def test_a_border_at_the_total_and_beside_it(self):
        rows = ((0, 10000), (100, 20000))
        self.check(rows, "down", (99, 99), (100, 100), (101, 102), (102, 104))
        rows = ((0, 20000), (100, 0))
        self.check(rows, "down", (99, 198), (100, 200), (101, 200), (1000, 200))

    def test_the_greatest_border(self):
        rows = ((0, 0), (MOST, 10000))
        self.check(rows, "down", (MOST - 1, 0), (MOST, 0), (MOST + 1, 1), (3 * MOST, 2 * MOST))

    def test_rounded_once_over_all_bands_together(self):
        rows = ((0, 4000), (1, 4000), (2, 4000))
        self.check(rows, "near", (1, 0), (2, 1), (3, 1))
        self.check(rows, "up", (1, 1), (2, 1), (3, 2))
        self.check(rows, "down", (1, 0), (2, 0), (3, 1))
        rows = ((0, 5000), (1, 5000), (2, 5000))
        self.check(rows, "even", (1, 0), (2, 1), (3, 2))
        self.check(rows, "near", (1, 1), (2, 1), (3, 2))

    def test_coin_by_coin(self):
        for rows in SOME:
            for total in list(range(25)) + [99, 100, 101, 499, 500, 999, 1000, 1001, 1099, 1100, 1101, 1500]:
                together = coin_by_coin(rows, total)
                for way in WAYS:
                    self.assertEqual(Bands("a", rows, way).until([total]), rounded(together, way), (rows, total, way))

    def test_all_bases_together(self):
        rule = Bands("a", ((0, 1000), (100, 2000)), "down")
        self.assertEqual(rule.until([]), 0)
        self.assertEqual(rule.until([0, 0]), 0)
        self.assertEqual(rule.until([60, 0, 60]), 14)
        self.assertEqual(rule.until([10] * 12), 14)

    def test_what_is_due_of_each_month(self):
        rule = Bands("a", ((0, 1000), (100, 2000)), "down")
        self.assertEqual([rule.of_month([60, 0, 60, 5][:count]) for count in range(5)], [0, 6, 0, 8, 1])

    def test_the_months_sum_to_what_is_due_till_then(self):
        for rows in SOME:
            for way in WAYS:
                rule = Bands("a", rows, way)
                for bases in ([3] * 12, [0, 7, 1, 0, 99, 1000, 5, 5, 5, 0, 0, 1], [MOST, 1, MOST], [0], []):
                    months = [rule.of_month(bases[:count]) for count in range(1, len(bases) + 1)]
                    for count in range(len(bases) + 1):
                        self.assertEqual(sum(months[:count]), rule.until(bases[:count]))

    def test_the_list_of_bases_stays_as_it_was_and_isnt_kept(self):
        rule = Bands("a", ((0, 1000), (100, 2000)), "down")
        bases = [60, 0, 60]
        self.assertEqual((rule.until(bases), rule.of_month(bases)), (14, 8))
        self.assertEqual(bases, [60, 0, 60])
        bases.clear()
        self.assertEqual((rule.until(bases), rule.of_month(bases)), (0, 0))
        self.assertEqual((rule.until([60, 0, 60]), rule.of_month([60, 0, 60])), (14, 8))


class TestMade(unittest.TestCase):
    def refuse(self, rows):
        for way in ("down", "even"):
            with self.assertRaises(BadRule):
                Bands("a", rows, way)

    def test_it_stands_under_rule(self):
        self.assertTrue(issubclass(Bands, Rule))
        self.assertEqual(Bands("abcdefgh", ((0, 1),), "up").name, "abcdefgh")

    def test_how_many(self):
        thirteen = TWELVE + ((5000, 1),)
        for count in range(1, 13):
            Bands("a", TWELVE[:count], "up")
        self.refuse(())
        self.refuse(thirteen)
        self.refuse(thirteen * 1000)

    def test_the_first_border(self):
        for border in (1, 2, 100, MOST):
            self.refuse(((border, 5),))
            self.refuse(((border, 5), (border + 1, 6)))

    def test_borders_that_dont_rise(self):
        self.refuse(((0, 1), (0, 2)))
        self.refuse(((0, 1), (5, 2), (5, 3)))
        self.refuse(((0, 1), (5, 2), (4, 3)))
        self.refuse(((0, 1), (5, 2), (0, 3)))
        self.refuse(((5, 1), (0, 2)))
        self.refuse(TWELVE[:11] + ((1000, 1),))
        Bands("a", TWELVE[:11] + ((1001, 1),), "up")

    def test_parts_at_both_ends(self):
        Bands("a", ((0, 0), (1, 20000)), "up")
        Bands("a", ((0, 20000), (1, 0)), "up")
        for parts in no_parts():
            self.refuse(((0, parts),))
            self.refuse(((0, parts), (5, 1)))
            self.refuse(((0, 1), (5, parts)))

    def test_borders_at_the_end(self):
        Bands("a", ((0, 1), (MOST, 1)), "up")
        for border in no_rule_amounts():
            self.refuse(((border, 1),))
            self.refuse(((0, 1), (border, 1)))
            self.refuse(((0, 1), (border, 1), (MOST, 1)))

    def test_odd_pairs(self):
        pairs = [(), (0,), (5,), (5, 1, 1), (0, 1, 1), [5, 1], [0, 1], "51", {5: 1, 6: 2}, {5, 1}, 5, 0, range(5, 7)]
        for pair in no_numbers() + pairs:
            self.refuse((pair,))
            self.refuse((pair, (9, 1)))
            self.refuse(((0, 1), pair))
            self.refuse(((0, 1), pair, (9, 1)))

    def test_odd_rows(self):
        rows = [[(0, 1)], [(0, 1), (5, 2)], [[0, 1]], {(0, 1): 1}, {(0, 1)}, (0, 1), "0:1", iter([(0, 1)]), 0, 5]
        for thing in no_numbers() + rows:
            self.refuse(thing)

    def test_no_names(self):
        for name in no_rule_names():
            with self.assertRaises(BadRule):
                Bands(name, ((0, 1),), "up")

    def test_no_ways(self):
        for way in no_ways():
            with self.assertRaises(BadRule):
                Bands("a", ((0, 1),), way)

    def test_all_wrong_at_once(self):
        with self.assertRaises(BadRule):
            Bands("net", [(1, -1)], "no way")


class TestRow(unittest.TestCase):
    def test_rows(self):
        self.assertEqual(Bands("inc", ((0, 0),), "up").row(), "bands inc 0:0 up")
        self.assertEqual(Bands("inc", ((0, 0), (1000, 1500)), "near").row(), "bands inc 0:0,1000:1500 near")
        self.assertEqual(Bands("a", ((0, 20000), (MOST, 7)), "even").row(), "bands a 0:20000,1000000000000:7 even")
        self.assertEqual(
            Bands("abcdefgh", TWELVE, "down").row(),
            "bands abcdefgh 0:0,100:700,200:1400,300:2100,400:2800,500:3500,600:4200,700:4900,800:5600,900:6300,"
            "1000:7000,1100:7700 down",
        )


if __name__ == "__main__":
    unittest.main()
