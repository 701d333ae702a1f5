import unittest

from coinroll.errors import BadClose, BadMonth
from coinroll.ledger import Ledger

from helper import no_months, no_names, no_numbers

GREAT = 10 ** 1000


class TestClose(unittest.TestCase):
    def test_a_new_ledger(self):
        ledger = Ledger()
        self.assertIsNone(ledger.last())
        self.assertEqual(ledger.payments(), [])
        self.assertEqual(ledger.paid("ann"), 0)
        self.assertEqual(ledger.owed("ann", 7), 7)

    def test_nobody(self):
        ledger = Ledger()
        self.assertEqual(ledger.close(5, []), [])
        self.assertEqual((ledger.last(), ledger.payments()), (5, []))

    def test_what_wasnt_paid_yet(self):
        ledger = Ledger()
        self.assertEqual(ledger.close(5, [("ann", 100)]), [("ann", 100)])
        self.assertEqual(ledger.close(6, [("ann", 250)]), [("ann", 150)])
        self.assertEqual(ledger.close(7, [("ann", 250)]), [])
        self.assertEqual(ledger.close(8, [("ann", 251)]), [("ann", 1)])
        self.assertEqual(ledger.paid("ann"), 251)
        self.assertEqual(ledger.payments(), [(5, "ann", 100), (6, "ann", 150), (8, "ann", 1)])

    def test_paid_then_owing_then_paid_again(self):
        ledger = Ledger()
        ledger.close(5, [("ann", 100)])
        self.assertEqual(ledger.close(6, [("ann", 60)]), [])
        self.assertEqual((ledger.paid("ann"), ledger.owed("ann", 60)), (100, -40))
        self.assertEqual(ledger.close(7, [("ann", -500)]), [])
        self.assertEqual((ledger.paid("ann"), ledger.owed("ann", -500)), (100, -600))
        self.assertEqual(ledger.close(8, [("ann", 99)]), [])
        self.assertEqual(ledger.close(9, [("ann", 100)]), [])
        self.assertEqual(ledger.close(10, [("ann", 130)]), [("ann", 30)])
        self.assertEqual(ledger.payments(), [(5, "ann", 100), (10, "ann", 30)])

    def test_nought_and_below(self):
        ledger = Ledger()
        self.assertEqual(ledger.close(5, [("ann", 0), ("bob", -5), ("eve", 1)]), [("eve", 1)])
        self.assertEqual([ledger.paid(name) for name in ("ann", "bob", "eve")], [0, 0, 1])
        self.assertEqual(ledger.owed("bob", -5), -5)

    def test_names_rising(self):
        dues = [("eve", 5), ("ann", 7), ("zoe", 1), ("an", 9), ("bob", 0), ("base", 2)]
        told = [("an", 9), ("ann", 7), ("base", 2), ("eve", 5), ("zoe", 1)]
        for turn in range(len(dues)):
            ledger = Ledger()
            self.assertEqual(ledger.close(5, dues[turn:] + dues[:turn]), told)
            self.assertEqual(ledger.payments(), [(5, name, amount) for name, amount in told])

    def test_payments_as_they_were_made(self):
        ledger = Ledger()
        ledger.close(5, [("eve", 5), ("bob", 2)])
        ledger.close(9, [("ann", 1), ("eve", 6)])
        ledger.close(12, [("bob", 3), ("ann", 2)])
        self.assertEqual(ledger.payments(), [
            (5, "bob", 2), (5, "eve", 5), (9, "ann", 1), (9, "eve", 1), (12, "ann", 1), (12, "bob", 1),
        ])
        self.assertEqual(ledger.last(), 12)

    def test_who_isnt_told_isnt_paid(self):
        ledger = Ledger()
        ledger.close(5, [("ann", 5), ("bob", 7)])
        self.assertEqual(ledger.close(6, [("bob", 8)]), [("bob", 1)])
        self.assertEqual((ledger.paid("ann"), ledger.paid("bob"), ledger.paid("eve")), (5, 8, 0))

    def test_what_is_owed_is_what_is_due_less_what_was_paid(self):
        ledger = Ledger()
        ledger.close(5, [("ann", 100)])
        for due in (0, 99, 100, 101, -7, GREAT, -GREAT):
            self.assertEqual(ledger.owed("ann", due), due - 100)
            self.assertEqual(ledger.owed("bob", due), due)
        self.assertEqual(ledger.paid("ann"), 100)

    def test_very_great_dues(self):
        ledger = Ledger()
        self.assertEqual(ledger.close(5, [("ann", GREAT), ("bob", -GREAT)]), [("ann", GREAT)])
        self.assertEqual(ledger.close(6, [("ann", 2 * GREAT + 1)]), [("ann", GREAT + 1)])

    def test_the_first_month_and_the_last(self):
        ledger = Ledger()
        ledger.close(0, [("ann", 1)])
        self.assertEqual(ledger.last(), 0)
        with self.assertRaises(BadClose):
            ledger.close(0, [("ann", 2)])
        ledger.close(119999, [("ann", 2)])
        self.assertEqual(ledger.last(), 119999)

    def test_ledgers_beside_one_another(self):
        one, other = Ledger(), Ledger()
        one.close(5, [("ann", 1)])
        self.assertEqual((other.last(), other.payments(), other.paid("ann")), (None, [], 0))
        other.close(3, [("ann", 7)])
        self.assertEqual((one.last(), one.payments(), one.paid("ann")), (5, [(5, "ann", 1)], 1))


class TestRefused(unittest.TestCase):
    def setUp(self):
        self.ledger = Ledger()
        self.ledger.close(5, [("ann", 100), ("bob", 7)])

    def refuse(self, kind, month, dues, ledger=None):
        ledger = ledger or self.ledger
        with self.assertRaises(kind):
            ledger.close(month, dues)
        self.assertEqual(self.ledger.last(), 5)
        self.assertEqual(self.ledger.payments(), [(5, "ann", 100), (5, "bob", 7)])
        self.assertEqual([self.ledger.paid(name) for name in ("ann", "bob", "eve")], [100, 7, 0])

    def test_no_months(self):
        for month in no_months():
            self.refuse(BadMonth, month, [("ann", 200)])
            self.refuse(BadMonth, month, None)
            self.refuse(BadMonth, month, [("ann", 1), ("ann", 1)])
            self.refuse(BadMonth, month, [], Ledger())

    def test_a_month_that_isnt_behind_the_last_one(self):
        for month in (0, 4, 5):
            self.refuse(BadClose, month, [("ann", 200)])
            self.refuse(BadClose, month, [])
        self.assertEqual(self.ledger.close(6, [("ann", 200)]), [("ann", 100)])

    def test_no_list(self):
        odd = [thing for thing in no_numbers() if not isinstance(thing, list)]
        for dues in odd + [(("ann", 200),), ("ann", 200), {"ann": 200}, {("ann", 200)}, "ann", 5, iter([("ann", 200)])]:
            self.refuse(BadClose, 6, dues)
            self.refuse(BadClose, 6, dues, Ledger())

    def test_no_pairs(self):
        pairs = [("ann",), ("ann", 1, 2), ["ann", 1], "ann", "a1", (1, "ann"), {"ann": 1}, {"ann", 1}, 5, (("ann", 1),), ("ann", (1,))]
        for pair in no_numbers() + pairs:
            self.refuse(BadClose, 6, [pair])
            self.refuse(BadClose, 6, [("eve", 1), pair])
            self.refuse(BadClose, 6, [pair, ("eve", 1)])

    def test_no_names(self):
        for name in no_names():
            self.refuse(BadClose, 6, [(name, 1)])
            self.refuse(BadClose, 6, [("eve", 1), (name, 1)])

    def test_no_numbers(self):
        for number in no_numbers():
            self.refuse(BadClose, 6, [("ann", number)])
            self.refuse(BadClose, 6, [("eve", 1), ("ann", number)])

    def test_a_name_twice(self):
        self.refuse(BadClose, 6, [("ann", 200), ("ann", 200)])
        self.refuse(BadClose, 6, [("ann", 200), ("eve", 1), ("ann", 300)])
        self.refuse(BadClose, 6, [("zoe", 0), ("zoe", -1)])

    def test_it_is_let_when_it_has_become_good(self):
        dues = [("ann", 200), ("ann", 200)]
        self.refuse(BadClose, 6, dues)
        dues.pop()
        self.assertEqual(self.ledger.close(6, dues), [("ann", 100)])


class TestOwnLists(unittest.TestCase):
    def test_the_list_handed_in_stays_as_it_was(self):
        dues = [("eve", 5), ("ann", 7)]
        Ledger().close(5, dues)
        self.assertEqual(dues, [("eve", 5), ("ann", 7)])

    def test_the_list_handed_in_changed_afterwards(self):
        ledger = Ledger()
        dues = [("eve", 5), ("ann", 7)]
        ledger.close(5, dues)
        dues.clear()
        dues.append(("ann", 99))
        self.assertEqual(ledger.payments(), [(5, "ann", 7), (5, "eve", 5)])
        self.assertEqual((ledger.paid("ann"), ledger.paid("eve")), (7, 5))

    def test_told_lists_may_be_changed(self):
        ledger = Ledger()
        ledger.close(5, [("ann", 7)]).append(("eve", 1))
        ledger.payments().clear()
        self.assertEqual(ledger.payments(), [(5, "ann", 7)])
        self.assertEqual(ledger.paid("eve"), 0)

    def test_what_was_told_stays_as_it_was(self):
        ledger = Ledger()
        told = ledger.close(5, [("ann", 7)])
        payments = ledger.payments()
        ledger.close(6, [("ann", 9)])
        self.assertEqual((told, payments), ([("ann", 7)], [(5, "ann", 7)]))


if __name__ == "__main__":
    unittest.main()
