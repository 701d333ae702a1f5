import math
import unittest
from fractions import Fraction

from coinroll.coins import need_amount, rounded, share_of
from coinroll.errors import BadAmount, BadShare

from helper import no_numbers, no_parts, no_ways

WAYS = ("down", "up", "near", "even")
GREAT = 10 ** 1000


def by_fractions(number, way):
    """The rounding of so many ten-thousandths, reckoned in another manner than the program's."""
    exact = Fraction(number, 10000)
    if way == "down":
        return math.floor(exact)
    if way == "up":
        return math.ceil(exact)
    if way == "even":
        return round(exact)
    far = math.floor(abs(exact) + Fraction(1, 2))
    return far if number >= 0 else -far


class TestNeedAmount(unittest.TestCase):
    def test_whole_numbers_are_amounts(self):
        for amount in [0, 1, -1, 1205, -7, GREAT, -GREAT, 10 ** 5000, -10 ** 5000]:
            self.assertIsNone(need_amount(amount))

    def test_all_else_is_refused(self):
        for thing in no_numbers():
            with self.assertRaises(BadAmount):
                need_amount(thing)


class TestRounded(unittest.TestCase):
    def check(self, number, down, up, near, even):
        with self.subTest(number=number):
            self.assertEqual([rounded(number, way) for way in WAYS], [down, up, near, even])

    def test_whole_ones(self):
        self.check(0, 0, 0, 0, 0)
        self.check(10000, 1, 1, 1, 1)
        self.check(-10000, -1, -1, -1, -1)
        self.check(30000, 3, 3, 3, 3)
        self.check(-120000, -12, -12, -12, -12)

    def test_beside_whole_ones(self):
        self.check(1, 0, 1, 0, 0)
        self.check(-1, -1, 0, 0, 0)
        self.check(9999, 0, 1, 1, 1)
        self.check(-9999, -1, 0, -1, -1)
        self.check(10001, 1, 2, 1, 1)
        self.check(-10001, -2, -1, -1, -1)

    def test_halves(self):
        self.check(5000, 0, 1, 1, 0)
        self.check(15000, 1, 2, 2, 2)
        self.check(25000, 2, 3, 3, 2)
        self.check(35000, 3, 4, 4, 4)

    def test_halves_below_nought(self):
        self.check(-5000, -1, 0, -1, 0)
        self.check(-15000, -2, -1, -2, -2)
        self.check(-25000, -3, -2, -3, -2)
        self.check(-35000, -4, -3, -4, -4)

    def test_beside_halves(self):
        self.check(4999, 0, 1, 0, 0)
        self.check(5001, 0, 1, 1, 1)
        self.check(14999, 1, 2, 1, 1)
        self.check(15001, 1, 2, 2, 2)
        self.check(24999, 2, 3, 2, 2)
        self.check(25001, 2, 3, 3, 3)

    def test_beside_halves_below_nought(self):
        self.check(-4999, -1, 0, 0, 0)
        self.check(-5001, -1, 0, -1, -1)
        self.check(-14999, -2, -1, -1, -1)
        self.check(-15001, -2, -1, -2, -2)
        self.check(-24999, -3, -2, -2, -2)
        self.check(-25001, -3, -2, -3, -3)

    def test_very_great_ones(self):
        self.check(GREAT * 10000, GREAT, GREAT, GREAT, GREAT)
        self.check(GREAT * 10000 + 5000, GREAT, GREAT + 1, GREAT + 1, GREAT)
        self.check(GREAT * 10000 + 5001, GREAT, GREAT + 1, GREAT + 1, GREAT + 1)
        self.check(GREAT * 10000 + 15000, GREAT + 1, GREAT + 2, GREAT + 2, GREAT + 2)
        self.check(-GREAT * 10000 - 5000, -GREAT - 1, -GREAT, -GREAT - 1, -GREAT)
        self.check(-GREAT * 10000 - 4999, -GREAT - 1, -GREAT, -GREAT, -GREAT)

    def test_many_against_fractions(self):
        for number in list(range(-60000, 60001, 7)) + list(range(-60000, 60001, 1250)):
            for way in WAYS:
                self.assertEqual(rounded(number, way), by_fractions(number, way), (number, way))

    def test_what_is_no_number(self):
        for thing in no_numbers():
            for way in WAYS:
                with self.assertRaises(BadAmount):
                    rounded(thing, way)

    def test_what_is_no_way(self):
        for thing in no_ways():
            for number in (0, 5000, -10000, GREAT):
                with self.assertRaises(BadShare):
                    rounded(number, thing)

    def test_the_number_is_refused_first(self):
        for thing in no_numbers():
            with self.assertRaises(BadAmount):
                rounded(thing, "no way")


class TestShareOf(unittest.TestCase):
    def check(self, amount, parts, down, up, near, even):
        with self.subTest(amount=amount, parts=parts):
            self.assertEqual([share_of(amount, parts, way) for way in WAYS], [down, up, near, even])

    def test_ordinary_shares(self):
        self.check(120000, 1250, 15000, 15000, 15000, 15000)
        self.check(1205, 900, 108, 109, 108, 108)
        self.check(333, 3333, 110, 111, 111, 111)
        self.check(-1205, 900, -109, -108, -108, -108)

    def test_nought(self):
        for parts in (0, 1, 5000, 20000):
            self.check(0, parts, 0, 0, 0, 0)
        for amount in (1, -1, 1205, GREAT, -GREAT):
            self.check(amount, 0, 0, 0, 0, 0)

    def test_one_part(self):
        self.check(1, 1, 0, 1, 0, 0)
        self.check(-1, 1, -1, 0, 0, 0)
        self.check(5000, 1, 0, 1, 1, 0)
        self.check(-5000, 1, -1, 0, -1, 0)
        self.check(10000, 1, 1, 1, 1, 1)

    def test_halves(self):
        self.check(1, 5000, 0, 1, 1, 0)
        self.check(3, 5000, 1, 2, 2, 2)
        self.check(5, 5000, 2, 3, 3, 2)
        self.check(-1, 5000, -1, 0, -1, 0)
        self.check(-3, 5000, -2, -1, -2, -2)
        self.check(-5, 5000, -3, -2, -3, -2)
        self.check(1, 15000, 1, 2, 2, 2)
        self.check(3, 15000, 4, 5, 5, 4)
        self.check(-1, 15000, -2, -1, -2, -2)
        self.check(-3, 15000, -5, -4, -5, -4)

    def test_the_whole_and_twice_the_whole(self):
        for amount in (1, -1, 1205, -7, GREAT, -GREAT):
            self.check(amount, 10000, amount, amount, amount, amount)
            self.check(amount, 20000, 2 * amount, 2 * amount, 2 * amount, 2 * amount)

    def test_very_great_amounts(self):
        odd = 2 * GREAT + 1
        self.check(odd, 5000, GREAT, GREAT + 1, GREAT + 1, GREAT)
        self.check(-odd, 5000, -GREAT - 1, -GREAT, -GREAT - 1, -GREAT)

    def test_a_share_is_amount_times_parts_rounded(self):
        for amount in (-1205, -3, -1, 0, 1, 2, 3, 99, 1205, 10 ** 30 + 1):
            for parts in (0, 1, 4999, 5000, 5001, 9999, 10000, 10001, 15000, 19999, 20000):
                for way in WAYS:
                    share = share_of(amount, parts, way)
                    self.assertEqual(share, by_fractions(amount * parts, way), (amount, parts, way))
                    self.assertEqual(share, rounded(amount * parts, way), (amount, parts, way))

    def test_what_is_no_amount(self):
        for thing in no_numbers():
            with self.assertRaises(BadAmount):
                share_of(thing, 5000, "near")

    def test_what_are_no_parts(self):
        for thing in no_parts():
            for amount in (0, 1, GREAT):
                with self.assertRaises(BadShare):
                    share_of(amount, thing, "near")

    def test_what_is_no_way(self):
        for thing in no_ways():
            for parts in (0, 5000):
                with self.assertRaises(BadShare):
                    share_of(1, parts, thing)

    def test_of_several_wrong_things_the_first_is_refused(self):
        for parts, way in ((-1, "near"), (5000, None), (20001, "no way"), (None, None)):
            with self.assertRaises(BadAmount):
                share_of(True, parts, way)

    def test_parts_are_refused_ahead_of_the_way(self):
        with self.assertRaises(BadShare) as of_parts:
            share_of(1, -1, "near")
        with self.assertRaises(BadShare) as of_both:
            share_of(1, -1, "no way")
        with self.assertRaises(BadShare) as of_way:
            share_of(1, 1, "no way")
        self.assertEqual(str(of_both.exception), str(of_parts.exception))
        self.assertNotEqual(str(of_both.exception), str(of_way.exception))


if __name__ == "__main__":
    unittest.main()
