"""An office: a book of rules, a journal, and the ledgers of people and of dues, on one day."""

from coinroll.changes import dues_together, statements, sums
from coinroll.errors import BadDay
from coinroll.journal import Journal, first_month_of, need_day
from coinroll.ledger import Ledger
from coinroll.lines import line_of
from coinroll.rulebook import RuleBook


class Office:
    def __init__(self):
        self.book = RuleBook()
        self.entries = Journal()
        self.wage_ledger = Ledger()
        self.due_ledger = Ledger()
        self.today = 0

    def rules(self, year, rows):
        self.book.put(year, rows)

    def put(self, mark, entry):
        self.entries.put(self.today, mark, entry)

    def go_on(self, day):
        need_day(day)
        if day < self.today:
            raise BadDay("that day is over")
        self.today = day

    # What bases, dues and nets of all months of a person come to, till a month.
    def sums_till(self, person, month):
        first = first_month_of(self.entries.of_person(person, self.today))
        return sums(statements(self.book, self.entries, person, first, month, self.today))

    def people_sums(self, month):
        return [(person, self.sums_till(person, month)) for person in self.entries.people(self.today)]

    # All that may be refused is reckoned ahead of both closes, so that neither ledger is closed alone.
    def close(self, month):
        self.wage_ledger.need_later(month)
        reckoned = self.people_sums(month)
        nets = [(person, total[2]) for person, total in reckoned]
        dues = dues_together([total[1] for person, total in reckoned])
        return (self.wage_ledger.close(month, nets), self.due_ledger.close(month, list(dues)))

    def statement(self, person, month):
        return self.some(person, month, month)[0]

    def some(self, person, first, last):
        return statements(self.book, self.entries, person, first, last, self.today)

    def owed(self, person):
        self.entries.of_person(person, self.today)
        last = self.wage_ledger.last()
        if last is None:
            return 0
        return self.wage_ledger.owed(person, self.sums_till(person, last)[2])

    def due(self, name):
        last = self.due_ledger.last()
        if last is None:
            return 0
        dues = dues_together([total[1] for person, total in self.people_sums(last)])
        return self.due_ledger.owed(name, dict(dues).get(name, 0))

    def day(self):
        return self.today

    def journal(self):
        return [line_of(mark, entry) for mark, entry in self.entries.known(self.today)]
