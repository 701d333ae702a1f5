import unittest
from fractions import Fraction

from coinroll.coins import split
from coinroll.errors import BadAmount, BadShare

from helper import no_numbers

GREAT = 10 ** 1000
MOST = 10 ** 9


def by_hand(amount, weights):
    """The split, each coin that is left over given out by a search of its own."""
    total = sum(weights)
    exact = [Fraction(amount * weight, total) for weight in weights]
    parts = [number.__floor__() for number in exact]
    rests = [number - part for number, part in zip(exact, parts)]
    while sum(parts) < amount:
        place = rests.index(max(rests))
        parts[place] += 1
        rests[place] = Fraction(-1)
    return parts


class TestSplit(unittest.TestCase):
    def check(self, amount, weights, parts):
        with self.subTest(amount=amount, weights=weights):
            self.assertEqual(split(amount, weights), parts)
            self.assertEqual(sum(parts), amount)

    def test_ordinary_ones(self):
        self.check(100, [1, 1], [50, 50])
        self.check(100, [3, 1], [75, 25])
        self.check(10, [5, 3, 2], [5, 3, 2])
        self.check(7, [1, 2, 3], [1, 2, 4])
        self.check(100, [1, 2, 4], [14, 29, 57])

    def test_the_greatest_rests_get_one_more(self):
        self.check(10, [1, 2, 4], [1, 3, 6])
        self.check(5, [1, 9], [1, 4])
        self.check(1, [1, 2], [0, 1])
        self.check(1, [2, 1], [1, 0])
        self.check(3, [1, 1, 2], [1, 1, 1])

    def test_of_like_rests_the_first_ones_get_one_more(self):
        self.check(1, [1, 1], [1, 0])
        self.check(1, [1, 1, 1], [1, 0, 0])
        self.check(2, [1, 1, 1], [1, 1, 0])
        self.check(5, [2, 2, 2], [2, 2, 1])
        self.check(2, [1, 1, 1, 1], [1, 1, 0, 0])
        self.check(1, [1, 3, 1, 3], [0, 1, 0, 0])
        self.check(3, [1, 3, 1, 3], [1, 1, 0, 1])
        self.check(5, [1, 3, 1, 3], [1, 2, 0, 2])

    def test_below_nought(self):
        self.check(-1, [1, 1], [0, -1])
        self.check(-1, [1, 1, 1], [0, 0, -1])
        self.check(-2, [1, 1, 1], [0, -1, -1])
        self.check(-100, [3, 1], [-75, -25])
        self.check(-10, [1, 2, 4], [-1, -3, -6])
        self.check(-5, [1, 9], [0, -5])

    def test_nought(self):
        self.check(0, [1], [0])
        self.check(0, [3, 0, 7], [0, 0, 0])

    def test_weights_of_nought_get_nothing(self):
        self.check(1, [0, 1], [0, 1])
        self.check(-1, [0, 1, 0], [0, -1, 0])
        self.check(5, [0, 1, 0, 1, 0], [0, 3, 0, 2, 0])
        self.check(-5, [0, 1, 0, 1, 0], [0, -2, 0, -3, 0])

    def test_one_weight_and_fifty(self):
        self.check(7, [1], [7])
        self.check(-7, [MOST], [-7])
        self.check(103, [1] * 50, [3] * 3 + [2] * 47)
        self.check(-1, [1] * 50, [0] * 49 + [-1])
        self.check(9, [0] * 49 + [1], [0] * 49 + [9])

    def test_the_greatest_weights(self):
        self.check(3, [MOST, MOST], [2, 1])
        self.check(MOST + 1, [MOST, 1], [MOST, 1])
        self.check(1, [MOST, MOST - 1], [1, 0])
        self.check(1, [MOST - 1, MOST], [0, 1])

    def test_very_great_amounts(self):
        self.check(3 * GREAT + 2, [1, 1, 1], [GREAT + 1, GREAT + 1, GREAT])
        self.check(-3 * GREAT - 2, [1, 1, 1], [-GREAT, -GREAT - 1, -GREAT - 1])

    def test_many_by_hand(self):
        some = [[1], [1, 1], [1, 2, 3], [3, 2, 1], [5, 0, 5, 1], [7, 7, 2, 7, 2], [MOST, 1, MOST - 1, 0],
                list(range(50)), [MOST] * 50, [k * k % 11 for k in range(50)]]
        for weights in some:
            for amount in list(range(-130, 131)) + [10 ** 12 + 7, -10 ** 12 - 7]:
                parts = split(amount, weights)
                self.assertEqual(parts, by_hand(amount, weights), (amount, weights))
                self.assertEqual(sum(parts), amount, (amount, weights))


class TestRefusedSplits(unittest.TestCase):
    def refuse(self, weights):
        for amount in (0, 1, -1, 100, GREAT):
            with self.assertRaises(BadShare):
                split(amount, weights)

    def test_what_is_no_amount(self):
        for thing in no_numbers():
            with self.assertRaises(BadAmount):
                split(thing, [1, 2])

    def test_the_amount_is_refused_first(self):
        for weights in ([], None, [0], [-1], [1] * 51, (1, 2)):
            for amount in (None, True, "1", [1]):
                with self.assertRaises(BadAmount):
                    split(amount, weights)

    def test_none_and_more_than_fifty(self):
        self.refuse([])
        self.refuse([1] * 51)
        self.refuse([0] * 50 + [1])
        self.refuse([1] * 100000)

    def test_all_nought(self):
        self.refuse([0])
        self.refuse([0, 0])
        self.refuse([0] * 50)

    def test_weights_out_of_bounds(self):
        for weight in (-1, MOST + 1, -MOST, GREAT, -GREAT):
            self.refuse([weight])
            self.refuse([1, weight])
            self.refuse([weight, 1, 1])
        self.refuse([2, -1, 1])

    def test_odd_weights(self):
        for thing in no_numbers():
            self.refuse([thing])
            self.refuse([thing, 1])
            self.refuse([1, thing])

    def test_what_is_no_list(self):
        odd = [thing for thing in no_numbers() if not isinstance(thing, list)]
        for thing in odd + [(1, 2), "12", {1: 1}, {1, 2}, range(1, 3), iter([1, 2]), 0, 1, GREAT]:
            self.refuse(thing)


class TestOwnLists(unittest.TestCase):
    def test_the_weights_stay_as_they_were(self):
        weights = [1, 2, 4]
        split(100, weights)
        self.assertEqual(weights, [1, 2, 4])

    def test_refused_weights_stay_as_they_were(self):
        for amount, kind in ((1, BadShare), (None, BadAmount)):
            weights = [3, -1, 2]
            with self.assertRaises(kind):
                split(amount, weights)
            self.assertEqual(weights, [3, -1, 2])

    def test_the_told_list_is_another_one(self):
        weights = [5]
        told = split(5, weights)
        self.assertIsNot(told, weights)
        told.append(1)
        self.assertEqual(weights, [5])

    def test_changing_what_was_told_changes_no_later_answer(self):
        weights = [1, 2, 4]
        told = split(100, weights)
        told[0] = 99
        told.append(1)
        self.assertEqual(split(100, weights), [14, 29, 57])

    def test_changing_the_weights_changes_nothing_told(self):
        weights = [1, 2, 4]
        told = split(100, weights)
        weights[0] = 50
        weights.append(9)
        self.assertEqual(told, [14, 29, 57])

    def test_a_refusal_changes_no_later_answer(self):
        for weights in ([], [-1], [0], None):
            with self.assertRaises(BadShare):
                split(100, weights)
            self.assertEqual(split(100, [1, 2, 4]), [14, 29, 57])


if __name__ == "__main__":
    unittest.main()
