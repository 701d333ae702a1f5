import itertools
import random
import unittest

from coinroll.changes import statements, sums
from coinroll.errors import (
    BadBook, BadClose, BadDay, BadEntry, BadMonth, BadRule, BadYear, NoMark, NoPerson, NoYear, RollError, TooMany,
)
from coinroll.journal import Journal
from coinroll.office import Office
from coinroll.rulebook import RuleBook

from helper import no_days, no_marks, no_months, no_names, no_numbers, no_years

JANUARY = 2031 * 12
APRIL = JANUARY + 3
MAY = APRIL + 1


def wage(person, first, amount, rank=0):
    return ("wage", person, first, rank, amount)


def office_with(*entries):
    office = Office()
    office.rules(2031, ["share tax 1000 down", "flat fee 3"])
    office.rules(2032, ["share tax 2000 down"])
    for mark, entry in entries:
        office.put(mark, entry)
    return office


def state(office):
    """All that an office tells, where refusals are told by their class."""
    def told(ask):
        try:
            return ask()
        except RollError as refusal:
            return refusal.__class__
    people = ("ann", "bob", "eve", "tax")
    return [office.day(), office.journal()] + [told(lambda: office.owed(name)) for name in people] + [
        told(lambda: office.due(name)) for name in ("tax", "fee", "other", "ann")] + [
        told(lambda: office.some(name, JANUARY, JANUARY + 30)) for name in people]


class TestClose(unittest.TestCase):
    def test_nobody(self):
        office = office_with()
        self.assertEqual(office.close(APRIL), ([], []))
        self.assertEqual(office.due("tax"), 0)

    def test_one_person(self):
        office = office_with(("a", wage("ann", APRIL, 105)))
        self.assertEqual(office.close(APRIL), ([("ann", 92)], [("fee", 3), ("tax", 10)]))
        self.assertEqual(office.close(MAY), ([("ann", 91)], [("fee", 3), ("tax", 11)]))
        self.assertEqual((office.owed("ann"), office.due("tax"), office.due("fee")), (0, 0, 0))

    def test_all_months_from_the_first_in_which_an_entry_begins(self):
        office = office_with(("a", wage("ann", APRIL, 100)), ("b", ("extra", "ann", JANUARY, 50)))
        self.assertEqual(office.close(APRIL), ([("ann", 50 - 5 - 3 + 100 - 10 - 3)], [("fee", 6), ("tax", 15)]))

    def test_a_close_ahead_of_the_first_month(self):
        office = office_with(("a", wage("ann", APRIL, 100)))
        self.assertEqual(office.close(APRIL - 1), ([], []))
        self.assertEqual(office.owed("ann"), 0)
        self.assertEqual(office.close(APRIL), ([("ann", 87)], [("fee", 3), ("tax", 10)]))

    def test_several_people(self):
        office = office_with(("a", wage("zoe", APRIL, 100)), ("b", wage("ann", MAY, 200)), ("c", wage("bob", JANUARY, 2)))
        people, dues = office.close(MAY)
        self.assertEqual(people, [("ann", 200 - 20 - 3), ("zoe", 200 - 20 - 6)])
        self.assertEqual(dues, [("fee", 3 + 6 + 15), ("tax", 20 + 20 + 1)])
        self.assertEqual(office.owed("bob"), 10 - 15 - 1)
        self.assertEqual((office.owed("ann"), office.owed("zoe")), (0, 0))

    def test_over_a_years_end(self):
        office = office_with(("a", wage("ann", JANUARY + 10, 100)))
        self.assertEqual(office.close(JANUARY + 13), ([("ann", 2 * 87 + 2 * 80)], [("fee", 6), ("tax", 20 + 40)]))

    def test_what_is_learnt_behind_a_close(self):
        office = office_with(("a", wage("ann", APRIL, 100)))
        office.close(APRIL)
        office.put("b", ("extra", "ann", APRIL, 50))
        self.assertEqual((office.owed("ann"), office.due("tax"), office.due("fee")), (45, 5, 0))
        self.assertEqual(office.close(MAY), ([("ann", 45 + 87)], [("fee", 3), ("tax", 15)]))
        self.assertEqual((office.owed("ann"), office.due("tax")), (0, 0))

    def test_what_is_owed_by_one(self):
        office = office_with(("a", wage("ann", APRIL, 100)))
        office.close(APRIL)
        office.go_on(3)
        office.put("a", wage("ann", APRIL, 10))
        self.assertEqual((office.owed("ann"), office.due("tax"), office.due("fee")), (10 - 1 - 3 - 87, -9, 0))
        self.assertEqual(office.close(MAY), ([], [("fee", 3)]))
        self.assertEqual((office.owed("ann"), office.due("tax")), (20 - 2 - 6 - 87, -8))
        office.put("c", ("extra", "ann", MAY, 1000))
        self.assertEqual((office.owed("ann"), office.due("tax")), (1020 - 102 - 6 - 87, 92))

    def test_to_the_last_month_closed(self):
        office = office_with(("a", wage("ann", APRIL, 100)))
        office.close(MAY)
        office.put("b", ("extra", "ann", MAY + 1, 50))
        self.assertEqual((office.owed("ann"), office.due("tax")), (0, 0))
        office.put("c", ("extra", "ann", MAY, 50))
        self.assertEqual((office.owed("ann"), office.due("tax")), (45, 5))

    def test_a_person_who_isnt_known_any_more(self):
        office = office_with(("a", wage("ann", APRIL, 100)), ("b", wage("bob", APRIL, 100)))
        office.close(APRIL)
        office.put("a", None)
        with self.assertRaises(NoPerson):
            office.owed("ann")
        self.assertEqual((office.due("tax"), office.due("fee")), (-10, -3))
        self.assertEqual(office.close(MAY), ([("bob", 87)], []))
        office.put("a", wage("ann", APRIL, 100))
        self.assertEqual(office.owed("ann"), 87)

    def test_rules_told_anew_behind_a_close(self):
        office = office_with(("a", wage("ann", APRIL, 100)))
        office.close(APRIL)
        office.rules(2031, ["flat club 7"])
        self.assertEqual(office.owed("ann"), 93 - 87)
        self.assertEqual([office.due(name) for name in ("club", "fee", "tax")], [7, -3, -10])
        self.assertEqual(office.close(MAY), ([("ann", 186 - 87)], [("club", 14)]))

    def test_people_and_dues_of_like_names(self):
        office = office_with(("a", wage("tax", APRIL, 100)), ("b", wage("fee", APRIL, 1000)))
        self.assertEqual(office.close(APRIL), ([("fee", 897), ("tax", 87)], [("fee", 6), ("tax", 110)]))
        self.assertEqual((office.owed("tax"), office.owed("fee"), office.due("tax"), office.due("fee")), (0, 0, 0, 0))
        office.put("c", ("extra", "tax", APRIL, 10))
        self.assertEqual((office.owed("tax"), office.owed("fee"), office.due("tax"), office.due("fee")), (9, 0, 1, 0))

    def test_the_same_things_in_another_order(self):
        entries = [("a", wage("ann", APRIL, 100)), ("b", wage("ann", APRIL, 70)), ("c", ("extra", "bob", MAY, 9)),
                   ("d", wage("bob", JANUARY, 40))]
        told = []
        for order in itertools.permutations(entries):
            office = office_with(*order)
            told.append((office.close(MAY), state(office)))
        self.assertTrue(all(one == told[0] for one in told))

    def test_a_hundred_and_twenty_months(self):
        office = office_with(("a", wage("ann", JANUARY, 100)))
        office.close(JANUARY + 119)
        with self.assertRaises(BadMonth):
            office.close(JANUARY + 120)
        self.assertEqual(office.owed("ann"), 0)


class TestPaidAndOwed(unittest.TestCase):
    def test_what_is_paid_and_what_is_owed_come_to_what_is_due(self):
        for seed in range(25):
            self.run_one(random.Random(seed))

    def run_one(self, chance):
        office, book, journal = Office(), RuleBook(), Journal()
        paid_people, paid_dues, closed = {}, {}, None
        for step in range(60):
            kind = chance.randrange(5)
            if kind == 0:
                year = chance.choice((2031, 2032, 2033))
                rows = chance.sample(["share tax 1234 near", "flat fee 5", "capped old 930 600 up", "least club 100 7 even",
                                      "bands inc 0:0,100:1500,500:4200 down"], chance.randrange(4))
                if step == 0 or year > 2031 or closed is None:
                    office.rules(year, rows)
                    book.put(year, rows)
            elif kind < 4:
                mark = chance.choice("abcdefgh")
                person = chance.choice(("ann", "bob", "eve"))
                month = JANUARY + chance.randrange(30)
                entry = chance.choice((wage(person, month, chance.randrange(500), chance.randrange(3)),
                                       ("extra", person, month, chance.randrange(100)), None))
                day = office.day() + chance.randrange(2)
                office.go_on(day)
                try:
                    office.put(mark, entry)
                    journal.put(day, mark, entry)
                except NoMark:
                    self.assertIsNone(entry)
            elif 2031 in book.years():
                month = JANUARY + chance.randrange(30) if closed is None else closed + 1 + chance.randrange(3)
                people, dues = office.close(month)
                closed = month
                self.check_close(office, people, paid_people)
                self.check_close(office, dues, paid_dues)
            if 2031 in book.years():
                self.check(office, book, journal, closed, paid_people, paid_dues)

    def check_close(self, office, payments, paid):
        self.assertEqual(payments, sorted(payments))
        for name, amount in payments:
            self.assertGreater(amount, 0)
            paid[name] = paid.get(name, 0) + amount

    def check(self, office, book, journal, closed, paid_people, paid_dues):
        day = office.day()
        dues = {}
        for person in journal.people(day):
            if closed is None:
                self.assertEqual(office.owed(person), 0)
                continue
            first = min(entry[2] for mark, entry in journal.known(day) if entry[1] == person)
            total = sums(statements(book, journal, person, first, closed, day))
            self.assertEqual(office.owed(person) + paid_people.get(person, 0), total[2])
            for name, due in total[1]:
                dues[name] = dues.get(name, 0) + due
        for name in ("tax", "fee", "old", "club", "inc", "other"):
            self.assertEqual(office.due(name) + paid_dues.get(name, 0), dues.get(name, 0))


class TestTold(unittest.TestCase):
    def test_a_new_office(self):
        office = Office()
        self.assertEqual((office.day(), office.journal()), (0, []))
        for name in ("tax", "ann", "base", "other"):
            self.assertEqual(office.due(name), 0)

    def test_what_tells_none(self):
        office = Office()
        self.assertIsNone(office.rules(2031, ["flat a 1"]))
        self.assertIsNone(office.put("a", wage("ann", APRIL, 5)))
        self.assertIsNone(office.put("a", None))
        self.assertIsNone(office.go_on(0))
        self.assertIsNone(office.go_on(7))
        self.assertEqual(office.day(), 7)

    def test_before_any_close_both_are_nought(self):
        office = Office()
        office.put("a", wage("ann", 0, 5))
        self.assertEqual((office.owed("ann"), office.due("tax")), (0, 0))
        with self.assertRaises(NoPerson):
            office.owed("bob")

    def test_a_statement(self):
        office = office_with(("a", wage("ann", APRIL, 105)))
        self.assertEqual(office.statement("ann", APRIL), (APRIL, 105, (("fee", 3), ("tax", 10)), 92))
        self.assertEqual(office.statement("ann", MAY), (MAY, 105, (("fee", 3), ("tax", 11)), 91))
        self.assertEqual(office.statement("ann", JANUARY), (JANUARY, 0, (("fee", 0), ("tax", 0)), 0))

    def test_some(self):
        office = office_with(("a", wage("ann", APRIL, 105)))
        self.assertEqual(office.some("ann", APRIL, MAY), [office.statement("ann", APRIL), office.statement("ann", MAY)])
        self.assertEqual(office.some("ann", MAY, APRIL), [])
        self.assertEqual(len(office.some("ann", JANUARY, JANUARY + 119)), 120)

    def test_all_is_told_as_known_on_its_day(self):
        office = office_with(("a", wage("ann", APRIL, 100)))
        office.go_on(5)
        office.put("a", wage("ann", APRIL, 200))
        self.assertEqual(office.statement("ann", APRIL)[1], 200)
        office.go_on(9)
        self.assertEqual(office.statement("ann", APRIL)[1], 200)
        self.assertEqual(office.journal(), ["a wage ann 2031-04 0 2.00"])

    def test_the_journal(self):
        office = office_with(("b", wage("ann", APRIL, 120000)), ("a", ("extra", "bob", MAY, 8000)), ("c", wage("eve", MAY, 1, 99)))
        self.assertEqual(office.journal(), ["a extra bob 2031-05 80.00", "b wage ann 2031-04 0 1200.00", "c wage eve 2031-05 99 0.01"])
        office.put("b", None)
        self.assertEqual(office.journal(), ["a extra bob 2031-05 80.00", "c wage eve 2031-05 99 0.01"])

    def test_offices_beside_one_another(self):
        one, other = office_with(("a", wage("ann", APRIL, 100))), Office()
        one.close(APRIL)
        one.go_on(4)
        self.assertEqual((other.day(), other.journal(), other.due("tax")), (0, [], 0))
        with self.assertRaises(NoYear):
            other.put("a", wage("ann", APRIL, 100)) or other.close(APRIL)


class TestRefused(unittest.TestCase):
    def setUp(self):
        self.office = office_with(("a", wage("ann", APRIL, 105)), ("b", wage("bob", JANUARY, 7)))
        self.office.go_on(4)
        self.office.close(APRIL)

    def refuse(self, kind, ask, office=None):
        office = office or self.office
        before = state(office)
        with self.assertRaises(kind):
            ask()
        self.assertEqual(state(office), before)

    def test_rules(self):
        for year in no_years():
            self.refuse(BadYear, lambda: self.office.rules(year, None))
        self.refuse(BadBook, lambda: self.office.rules(2031, ("flat a 1",)))
        self.refuse(BadBook, lambda: self.office.rules(2031, ["none"] * 9))
        self.refuse(BadRule, lambda: self.office.rules(2031, ["flat a 1", "flat a 1", "none"]))
        self.refuse(BadRule, lambda: self.office.rules(2031, [None]))
        self.refuse(BadBook, lambda: self.office.rules(2031, ["flat a 1", "flat a 2"]))

    def test_put(self):
        for mark in no_marks():
            self.refuse(BadEntry, lambda: self.office.put(mark, wage("ann", 0, 1)))
        for entry in no_numbers():
            if entry is not None:
                self.refuse(BadEntry, lambda: self.office.put("c", entry))
        self.refuse(NoMark, lambda: self.office.put("c", None))
        self.office.put("a", None)
        self.refuse(NoMark, lambda: self.office.put("a", None))
        for number in range(88):
            self.office.put(f"m{number}", wage("bob", JANUARY, 7))
        self.refuse(TooMany, lambda: self.office.put("c", wage("ann", 0, 1)))
        self.refuse(TooMany, lambda: self.office.put("c", None))
        self.refuse(BadEntry, lambda: self.office.put("c", ()))

    def test_go_on(self):
        for day in no_days() + [0, 1, 3]:
            self.refuse(BadDay, lambda: self.office.go_on(day))
        self.office.go_on(4)
        self.office.go_on(5)
        self.refuse(BadDay, lambda: self.office.go_on(4))

    def test_close(self):
        for month in no_months():
            self.refuse(BadMonth, lambda: self.office.close(month))
        for month in (0, JANUARY, APRIL - 1, APRIL):
            self.refuse(BadClose, lambda: self.office.close(month))
        self.assertEqual(self.office.close(MAY)[0], [("ann", 91), ("bob", 3)])

    def test_a_close_of_more_than_a_hundred_and_twenty_months(self):
        self.refuse(BadMonth, lambda: self.office.close(JANUARY + 120))
        self.refuse(BadMonth, lambda: self.office.close(119999))
        self.office.close(JANUARY + 119)

    def test_a_close_ahead_of_all_rules(self):
        office = office_with(("a", wage("ann", JANUARY - 1, 5)))
        self.refuse(NoYear, lambda: office.close(JANUARY + 5), office)
        self.refuse(NoYear, lambda: office.close(JANUARY - 1), office)
        self.assertEqual(office.close(JANUARY - 2), ([], []))
        office.rules(2030, [])
        self.assertEqual(office.close(JANUARY - 1), ([("ann", 5)], []))

    def test_person_by_person(self):
        late = ("a", wage("ann", JANUARY - 1, 5))
        long = ("b", wage("bob", JANUARY - 200, 5))
        office = office_with(late, long)
        self.refuse(NoYear, lambda: office.close(JANUARY + 5), office)
        self.refuse(BadMonth, lambda: office.close(JANUARY + 119), office)
        office = office_with(("a", wage("bob", JANUARY - 1, 5)), ("b", wage("ann", JANUARY - 200, 5)))
        self.refuse(BadMonth, lambda: office.close(JANUARY + 5), office)
        office.put("b", None)
        self.refuse(NoYear, lambda: office.close(JANUARY + 5), office)

    def test_a_month_not_behind_the_last_ahead_of_the_people(self):
        self.office.put("c", wage("ann", 0, 5))
        self.refuse(BadClose, lambda: self.office.close(APRIL))
        self.refuse(BadMonth, lambda: self.office.close(-1))
        self.refuse(BadMonth, lambda: self.office.close(MAY))

    def test_statement(self):
        for person in no_names() + ["eve", "tax"]:
            for month in (APRIL, -1, None, 0):
                self.refuse(NoPerson, lambda: self.office.statement(person, month))
        for month in no_months():
            self.refuse(BadMonth, lambda: self.office.statement("ann", month))
        for month in (0, JANUARY - 1):
            self.refuse(NoYear, lambda: self.office.statement("ann", month))

    def test_some(self):
        for person in no_names() + ["eve", "tax"]:
            self.refuse(NoPerson, lambda: self.office.some(person, -1, None))
        for month in no_months():
            self.refuse(BadMonth, lambda: self.office.some("ann", month, APRIL))
            self.refuse(BadMonth, lambda: self.office.some("ann", APRIL, month))
        self.refuse(BadMonth, lambda: self.office.some("ann", 0, 120))
        self.refuse(NoYear, lambda: self.office.some("ann", 0, 119))
        self.refuse(BadMonth, lambda: self.office.some("ann", JANUARY, JANUARY + 120))

    def test_owed(self):
        for person in no_names() + ["eve", "tax"]:
            self.refuse(NoPerson, lambda: self.office.owed(person))
            self.refuse(NoPerson, lambda: Office().owed(person))

    def test_owed_by_that_persons_months_alone_due_by_those_of_all(self):
        self.office.put("c", wage("ann", JANUARY - 1, 5))
        self.refuse(NoYear, lambda: self.office.owed("ann"))
        self.assertEqual(self.office.owed("bob"), 0)
        for name in ("tax", "fee", "other"):
            self.refuse(NoYear, lambda: self.office.due(name))
        self.office.put("c", wage("ann", 0, 5))
        self.refuse(BadMonth, lambda: self.office.owed("ann"))
        for name in ("tax", "fee", "other"):
            self.refuse(BadMonth, lambda: self.office.due(name))
        self.office.put("d", wage("bob", JANUARY - 1, 5))
        self.refuse(BadMonth, lambda: self.office.due("tax"))
        self.refuse(NoYear, lambda: self.office.owed("bob"))
        self.office.put("c", None)
        self.refuse(NoYear, lambda: self.office.due("tax"))
        self.office.put("d", None)
        self.assertEqual((self.office.owed("ann"), self.office.due("tax")), (0, 0))

    def test_who_isnt_known_ahead_of_what_is_refused_else(self):
        self.office.put("c", wage("ann", 0, 5))
        self.refuse(NoPerson, lambda: self.office.owed("eve"))


class TestOwn(unittest.TestCase):
    def test_the_list_of_rules_is_not_kept(self):
        rows = ["flat a 1"]
        office = Office()
        office.rules(2031, rows)
        office.put("a", wage("ann", APRIL, 5))
        rows.append("flat b 1")
        self.assertEqual(office.statement("ann", APRIL), (APRIL, 5, (("a", 1),), 4))
        self.assertEqual(rows, ["flat a 1", "flat b 1"])

    def test_told_lists_may_be_changed(self):
        office = office_with(("a", wage("ann", APRIL, 105)))
        office.journal().clear()
        office.some("ann", APRIL, MAY).clear()
        people, dues = office.close(APRIL)
        people.clear()
        dues.append(("tax", 99))
        self.assertEqual(office.journal(), ["a wage ann 2031-04 0 1.05"])
        self.assertEqual(len(office.some("ann", APRIL, MAY)), 2)
        self.assertEqual((office.owed("ann"), office.due("tax")), (0, 0))

    def test_what_was_told_stays_as_it_was(self):
        office = office_with(("a", wage("ann", APRIL, 105)))
        journal, some, paid = office.journal(), office.some("ann", APRIL, APRIL), office.close(APRIL)
        office.put("a", wage("ann", APRIL, 9))
        office.rules(2031, [])
        office.close(MAY)
        self.assertEqual(journal, ["a wage ann 2031-04 0 1.05"])
        self.assertEqual(some, [(APRIL, 105, (("fee", 3), ("tax", 10)), 92)])
        self.assertEqual(paid, ([("ann", 92)], [("fee", 3), ("tax", 10)]))


if __name__ == "__main__":
    unittest.main()
