import itertools
import unittest

from coinroll.errors import BadDay, BadEntry, BadMonth, NoMark, NoPerson, TooMany
from coinroll.journal import Journal

from helper import LikeAll, LikeNone, no_days, no_marks, no_months, no_names, no_numbers

APRIL = 2031 * 12 + 3
JANUARY = 2031 * 12
MOST = 10 ** 10

WAGE = ("wage", "ann", APRIL, 0, 1000)
EXTRA = ("extra", "ann", APRIL + 1, 80)


def journal_with(*told):
    journal = Journal()
    for day, mark, entry in told:
        journal.put(day, mark, entry)
    return journal


def full():
    """A journal in which ninety marks were told."""
    journal = Journal()
    for number in range(90):
        journal.put(0, f"m{number}", WAGE)
    return journal


class TestBase(unittest.TestCase):
    def bases(self, journal, months, person="ann", day=9):
        return [journal.base(person, month, day) for month in months]

    def test_a_wage(self):
        journal = journal_with((0, "a", WAGE))
        months = (0, APRIL - 1, APRIL, APRIL + 1, APRIL + 500, 119999)
        self.assertEqual(self.bases(journal, months), [0, 0, 1000, 1000, 1000, 1000])

    def test_an_extra(self):
        journal = journal_with((0, "a", EXTRA))
        self.assertEqual(self.bases(journal, (APRIL, APRIL + 1, APRIL + 2)), [0, 80, 0])

    def test_a_wage_and_extras(self):
        journal = journal_with((0, "a", WAGE), (0, "b", EXTRA), (0, "c", EXTRA), (0, "d", ("extra", "ann", APRIL - 1, 7)))
        self.assertEqual(self.bases(journal, range(APRIL - 2, APRIL + 3)), [0, 7, 1000, 1160, 1000])

    def test_the_greatest_first_tells(self):
        journal = journal_with((0, "z", ("wage", "ann", APRIL, 99, 1000)), (0, "a", ("wage", "ann", APRIL + 2, 0, 500)))
        self.assertEqual(self.bases(journal, range(APRIL - 1, APRIL + 4)), [0, 1000, 1000, 500, 500])

    def test_of_like_ones_the_greatest_rank(self):
        journal = journal_with((0, "z", ("wage", "ann", APRIL, 9, 1000)), (0, "a", ("wage", "ann", APRIL, 10, 500)))
        self.assertEqual(self.bases(journal, (APRIL - 1, APRIL, APRIL + 1)), [0, 500, 500])

    def test_of_these_the_greatest_mark_as_texts(self):
        marks = ["0", "10", "9", "99", "a", "a0", "a9", "aa", "b", "z", "zz"]
        for less, greater in itertools.combinations(marks, 2):
            for told in ((less, greater), (greater, less)):
                journal = journal_with(*[(0, mark, ("wage", "ann", APRIL, 5, 1 if mark == less else 2)) for mark in told])
                self.assertEqual(journal.base("ann", APRIL, 0), 2, (less, greater))

    def test_a_wage_of_nought_tells_too(self):
        journal = journal_with((0, "a", WAGE), (0, "b", ("wage", "ann", APRIL + 2, 0, 0)))
        self.assertEqual(self.bases(journal, (APRIL + 1, APRIL + 2)), [1000, 0])

    def test_the_amount_never_decides(self):
        journal = journal_with((0, "b", ("wage", "ann", APRIL, 5, 1)), (0, "a", ("wage", "ann", APRIL, 5, 1000)))
        self.assertEqual(journal.base("ann", APRIL, 0), 1)

    def test_each_person_by_itself(self):
        journal = journal_with((0, "a", WAGE), (0, "b", ("wage", "bob", APRIL + 1, 0, 5)), (0, "c", EXTRA))
        months = range(APRIL, APRIL + 3)
        self.assertEqual(self.bases(journal, months), [1000, 1080, 1000])
        self.assertEqual(self.bases(journal, months, "bob"), [0, 5, 5])

    def test_the_bounds(self):
        for first in (0, 119999):
            for rank in (0, 99):
                for amount in (0, MOST):
                    journal = journal_with((0, "a", ("wage", "ann", first, rank, amount)), (0, "b", ("extra", "ann", first, amount)))
                    self.assertEqual(journal.base("ann", first, 0), 2 * amount)
                    self.assertEqual(journal.known(0)[0], ("a", ("wage", "ann", first, rank, amount)))

    def test_bases_from_january_on(self):
        journal = journal_with((0, "a", WAGE), (0, "b", EXTRA), (0, "c", ("wage", "ann", APRIL - 9, 0, 3)))
        self.assertEqual(journal.bases("ann", JANUARY, 0), [3])
        self.assertEqual(journal.bases("ann", APRIL, 0), [3, 3, 3, 1000])
        self.assertEqual(journal.bases("ann", JANUARY + 11, 0), [3, 3, 3, 1000, 1080] + [1000] * 7)
        self.assertEqual(journal.bases("ann", JANUARY + 12, 0), [1000])
        self.assertEqual(journal.bases("ann", JANUARY - 1, 0), [0] * 6 + [3] * 6)
        self.assertEqual(journal.bases("ann", 0, 0), [0])
        self.assertEqual(journal.bases("ann", 119999, 0), [1000] * 12)


class TestKnown(unittest.TestCase):
    def test_a_new_journal(self):
        for day in (0, 1, 10 ** 1000):
            self.assertEqual((Journal().known(day), Journal().people(day)), ([], []))

    def test_put_tells_none(self):
        journal = Journal()
        self.assertIsNone(journal.put(0, "a", WAGE))
        self.assertIsNone(journal.put(0, "a", None))

    def test_by_marks_rising(self):
        marks = ["0", "10", "9", "a", "a0", "aa", "b"]
        for turn in range(len(marks)):
            journal = journal_with(*[(0, mark, WAGE) for mark in (marks[turn:] + marks[:turn])[::-1]])
            self.assertEqual(journal.known(0), [(mark, WAGE) for mark in marks])

    def test_marks(self):
        for mark in ("a", "z", "0", "9", "a1", "1a", "00", "12345678", "abcdefgh"):
            self.assertEqual(journal_with((0, mark, WAGE)).known(0), [(mark, WAGE)])

    def test_people_rising(self):
        journal = journal_with((0, "a", ("wage", "eve", 0, 0, 1)), (0, "b", ("extra", "bob", 0, 1)), (0, "c", WAGE),
                               (1, "d", ("wage", "al", 0, 0, 1)), (1, "e", ("wage", "bob", 0, 0, 1)))
        self.assertEqual(journal.people(0), ["ann", "bob", "eve"])
        self.assertEqual(journal.people(1), ["al", "ann", "bob", "eve"])
        journal.put(2, "a", None)
        journal.put(2, "b", None)
        self.assertEqual(journal.people(2), ["al", "ann", "bob"])
        self.assertEqual(journal.people(1), ["al", "ann", "bob", "eve"])

    def test_told_anew_out_and_in_again(self):
        journal = journal_with((1, "a", WAGE), (3, "a", EXTRA), (5, "a", None), (7, "a", WAGE))
        for day, entry in ((0, None), (1, WAGE), (2, WAGE), (3, EXTRA), (4, EXTRA), (5, None), (6, None), (7, WAGE), (99, WAGE)):
            self.assertEqual(journal.known(day), [] if entry is None else [("a", entry)], day)
            self.assertEqual(journal.people(day), [] if entry is None else ["ann"], day)

    def test_several_times_on_one_day(self):
        journal = journal_with((4, "a", WAGE), (4, "a", EXTRA), (4, "b", WAGE), (4, "b", None))
        self.assertEqual(journal.known(3), [])
        self.assertEqual(journal.known(4), [("a", EXTRA)])
        journal.put(4, "b", EXTRA)
        journal.put(4, "a", None)
        self.assertEqual(journal.known(4), [("b", EXTRA)])

    def test_what_was_known_as_of_an_older_day_stays_so(self):
        journal = journal_with((2, "a", WAGE), (2, "b", EXTRA))
        journal.put(5, "a", ("wage", "ann", APRIL, 0, 7))
        journal.put(6, "b", None)
        journal.put(10 ** 1000, "c", EXTRA)
        told = [(day, journal.known(day), journal.base("ann", APRIL + 1, day)) for day in (2, 4, 5, 6, 10 ** 1000)]
        self.assertEqual([base for day, known, base in told], [1080, 1080, 87, 7, 87])
        journal.put(10 ** 1000 + 1, "a", None)
        for day, known, base in told:
            self.assertEqual((journal.known(day), journal.base("ann", APRIL + 1, day)), (known, base))

    def test_the_same_entries_in_another_order(self):
        told = [("a", WAGE), ("b", ("wage", "ann", APRIL, 0, 7)), ("c", EXTRA), ("d", ("wage", "bob", APRIL, 0, 7))]
        for order in itertools.permutations(told):
            journal = journal_with(*[(0, mark, entry) for mark, entry in order])
            self.assertEqual(journal.known(0), told)
            self.assertEqual(journal.people(0), ["ann", "bob"])
            self.assertEqual(journal.bases("ann", APRIL + 2, 0), [0, 0, 0, 7, 87, 7])

    def test_the_same_entries_on_other_days(self):
        journal = journal_with((0, "b", EXTRA), (8, "a", WAGE))
        other = journal_with((1, "a", WAGE), (2, "b", EXTRA))
        self.assertEqual(journal.known(8), other.known(8))


class TestRefusedPut(unittest.TestCase):
    def setUp(self):
        self.journal = journal_with((3, "a", WAGE), (4, "b", EXTRA), (5, "b", None))

    def refuse(self, kind, day, mark, entry, journal=None):
        journal = journal or self.journal
        before = [journal.known(number) for number in range(8)]
        with self.assertRaises(kind):
            journal.put(day, mark, entry)
        self.assertEqual([journal.known(number) for number in range(8)], before)

    def test_days(self):
        for day in no_days() + [0, 3, 4]:
            self.refuse(BadDay, day, "c", WAGE)
            self.refuse(BadDay, day, "a", None)

    def test_the_last_day_itself_is_let(self):
        self.journal.put(5, "c", WAGE)
        self.journal.put(5, "c", None)

    def test_a_day_that_is_refused_doesnt_count(self):
        self.refuse(BadEntry, 9, "A", WAGE)
        self.refuse(BadEntry, 9, "c", ())
        self.refuse(NoMark, 9, "b", None)
        self.journal.put(5, "c", WAGE)
        self.assertEqual(self.journal.known(5), [("a", WAGE), ("c", WAGE)])

    def test_marks(self):
        for mark in no_marks():
            self.refuse(BadEntry, 5, mark, WAGE)
            self.refuse(BadEntry, 5, mark, None)

    def test_entries_of_another_form(self):
        for entry in no_numbers() + [0, 5, -1, "wage", "out"]:
            if entry is not None:
                self.refuse(BadEntry, 5, "c", entry)
                self.refuse(BadEntry, 5, "a", entry)
        for entry in (WAGE, EXTRA):
            self.refuse(BadEntry, 5, "c", list(entry))
            self.refuse(BadEntry, 5, "c", (entry,))
            self.refuse(BadEntry, 5, "c", [entry])
            self.refuse(BadEntry, 5, "c", dict(enumerate(entry)))
            self.refuse(BadEntry, 5, "c", entry[:-1])
            self.refuse(BadEntry, 5, "c", entry[1:])
            self.refuse(BadEntry, 5, "c", entry + (0,))
            self.refuse(BadEntry, 5, "c", entry + entry)
            self.refuse(BadEntry, 5, "c", " ".join(str(part) for part in entry))
        self.refuse(BadEntry, 5, "c", ("extra",) + WAGE[1:])
        self.refuse(BadEntry, 5, "c", ("wage",) + EXTRA[1:])

    def test_other_words(self):
        for word in ("Wage", "WAGE", "wages", "wag", "", "out", "extras", "Extra", "extra ", " wage", None, 0, b"wage", ["wage"],
                     LikeAll(), LikeNone()):
            self.refuse(BadEntry, 5, "c", (word,) + WAGE[1:])
            self.refuse(BadEntry, 5, "c", (word,) + EXTRA[1:])

    def test_no_persons(self):
        for person in no_names():
            self.refuse(BadEntry, 5, "c", ("wage", person, APRIL, 0, 1))
            self.refuse(BadEntry, 5, "c", ("extra", person, APRIL, 1))

    def test_no_months(self):
        for month in no_months():
            self.refuse(BadEntry, 5, "c", ("wage", "ann", month, 0, 1))
            self.refuse(BadEntry, 5, "c", ("extra", "ann", month, 1))

    def test_no_ranks(self):
        for rank in no_numbers() + [-1, 100, 101, 10 ** 1000]:
            self.refuse(BadEntry, 5, "c", ("wage", "ann", APRIL, rank, 1))

    def test_no_amounts(self):
        for amount in no_numbers() + [-1, MOST + 1, 2 * MOST, 10 ** 1000, -MOST]:
            self.refuse(BadEntry, 5, "c", ("wage", "ann", APRIL, 0, amount))
            self.refuse(BadEntry, 5, "c", ("extra", "ann", APRIL, amount))

    def test_a_mark_told_out(self):
        self.refuse(NoMark, 5, "b", None)
        self.refuse(NoMark, 6, "b", None)
        self.refuse(NoMark, 5, "never", None)
        self.journal.put(6, "a", None)
        self.refuse(NoMark, 6, "a", None)
        self.refuse(NoMark, 7, "a", None)

    def test_what_was_refused_is_let_when_it_has_become_good(self):
        self.refuse(NoMark, 5, "b", None)
        self.journal.put(5, "b", EXTRA)
        self.journal.put(5, "b", None)
        self.refuse(NoMark, 5, "c", None)
        self.journal.put(6, "c", WAGE)
        self.journal.put(6, "c", None)
        self.assertEqual(self.journal.known(6), [("a", WAGE)])

    def test_the_ninetieth_and_the_ninety_first_mark(self):
        journal = Journal()
        for number in range(90):
            journal.put(0, f"m{number}", WAGE)
            self.assertEqual(len(journal.known(0)), number + 1)
        self.refuse(TooMany, 0, "other", WAGE, journal)
        self.refuse(TooMany, 5, "other", EXTRA, journal)
        journal.put(0, "m0", EXTRA)
        journal.put(0, "m89", None)
        self.refuse(TooMany, 0, "other", WAGE, journal)
        journal.put(0, "m89", WAGE)
        self.assertEqual(len(journal.known(0)), 90)

    def test_marks_that_are_out_count_too(self):
        journal = full()
        for number in range(90):
            journal.put(1, f"m{number}", None)
        self.assertEqual(journal.known(1), [])
        self.refuse(TooMany, 1, "other", WAGE, journal)
        journal.put(1, "m5", WAGE)
        self.assertEqual(journal.known(1), [("m5", WAGE)])

    def test_refused_marks_dont_count(self):
        journal = Journal()
        for number in range(200):
            self.refuse(NoMark, 0, f"n{number}", None, journal)
            self.refuse(BadEntry, 0, f"n{number}", (), journal)
        for number in range(90):
            journal.put(0, f"m{number}", WAGE)

    def test_each_refusal_with_all_behind_it_wrong_as_well(self):
        journal = full()
        journal.put(2, "m0", None)
        for day in (-1, 1, None, True):
            for mark in ("A", None, "other", "m0"):
                for entry in ((), 5, None, WAGE):
                    self.refuse(BadDay, day, mark, entry, journal)
        for mark in ("A", None, LikeNone()):
            for entry in ((), 5, None, WAGE):
                self.refuse(BadEntry, 2, mark, entry, journal)
        self.refuse(BadEntry, 2, "other", (), journal)
        self.refuse(BadEntry, 2, "m0", (), journal)
        self.refuse(TooMany, 2, "other", None, journal)
        self.refuse(NoMark, 2, "m0", None, journal)

    def test_a_wrong_mark_is_refused_ahead_of_a_wrong_entry(self):
        words = []
        for mark, entry in (("A", WAGE), ("A", ()), ("c", ())):
            with self.assertRaises(BadEntry) as refusal:
                self.journal.put(5, mark, entry)
            words.append(str(refusal.exception))
        self.assertEqual(words[0], words[1])
        self.assertNotEqual(words[1], words[2])


class TestRefusedAsking(unittest.TestCase):
    def setUp(self):
        self.journal = journal_with((3, "a", WAGE), (4, "b", ("wage", "bob", APRIL, 0, 5)), (6, "a", None))

    def test_days(self):
        for day in no_days():
            for told in (self.journal.known, self.journal.people):
                with self.assertRaises(BadDay):
                    told(day)
            for told in (self.journal.base, self.journal.bases):
                for person, month in (("ann", APRIL), ("none", APRIL), (None, None), ("ann", -1)):
                    with self.assertRaises(BadDay):
                        told(person, month, day)

    def test_people_who_arent_known_as_of_that_day(self):
        for told in (self.journal.base, self.journal.bases):
            for person, day in (("ann", 0), ("ann", 2), ("ann", 6), ("ann", 99), ("bob", 3), ("eve", 5), ("an", 5), ("annn", 5)):
                for month in (APRIL, -1, None):
                    with self.assertRaises(NoPerson):
                        told(person, month, day)
            for person, day in (("ann", 3), ("ann", 5), ("bob", 4), ("bob", 99)):
                told(person, APRIL, day)

    def test_no_persons(self):
        for person in no_names():
            for told in (self.journal.base, self.journal.bases):
                for month in (APRIL, -1):
                    with self.assertRaises(NoPerson):
                        told(person, month, 5)

    def test_months(self):
        for month in no_months():
            for told in (self.journal.base, self.journal.bases):
                with self.assertRaises(BadMonth):
                    told("ann", month, 5)


class TestOwnLists(unittest.TestCase):
    def test_told_lists_may_be_changed(self):
        journal = journal_with((0, "a", WAGE), (0, "b", EXTRA))
        journal.known(0).clear()
        journal.people(0).append("bob")
        journal.bases("ann", APRIL, 0).clear()
        self.assertEqual(journal.known(0), [("a", WAGE), ("b", EXTRA)])
        self.assertEqual(journal.people(0), ["ann"])
        self.assertEqual(journal.bases("ann", APRIL, 0), [0, 0, 0, 1000])

    def test_what_was_told_stays_as_it_was(self):
        journal = journal_with((0, "a", WAGE), (0, "b", EXTRA))
        known = journal.known(0)
        people = journal.people(0)
        bases = journal.bases("ann", APRIL, 0)
        journal.put(0, "a", None)
        journal.put(0, "c", ("wage", "bob", 0, 0, 1))
        self.assertEqual(known, [("a", WAGE), ("b", EXTRA)])
        self.assertEqual(people, ["ann"])
        self.assertEqual(bases, [0, 0, 0, 1000])

    def test_journals_beside_one_another(self):
        one = journal_with((5, "a", WAGE))
        other = Journal()
        other.put(0, "b", EXTRA)
        self.assertEqual((one.known(5), other.known(5)), ([("a", WAGE)], [("b", EXTRA)]))


if __name__ == "__main__":
    unittest.main()
