"""What was paid to whom, month by month."""

from coinroll.coins import is_number
from coinroll.errors import BadClose
from coinroll.months import need_month
from coinroll.names import is_name


def is_due(thing):
    if not isinstance(thing, tuple) or len(thing) != 2:
        return False
    return is_name(thing[0]) and is_number(thing[1])


def need_dues(thing):
    if not isinstance(thing, list) or not all([is_due(pair) for pair in thing]):
        raise BadClose("dues are a list of pairs of a name and a number")
    if len(set([pair[0] for pair in thing])) < len(thing):
        raise BadClose("a name stands twice among the dues")


class Ledger:
    def __init__(self):
        self.totals = {}
        self.made = []
        self.closed = None

    def need_later(self, month):
        need_month(month)
        if self.closed is not None and month <= self.closed:
            raise BadClose("that month isn't behind the last one closed")

    def close(self, month, dues):
        self.need_later(month)
        need_dues(dues)
        unpaid = [(name, self.owed(name, due)) for name, due in sorted(dues)]
        paid_now = [(name, amount) for name, amount in unpaid if amount > 0]
        for name, amount in paid_now:
            self.totals[name] = self.paid(name) + amount
            self.made.append((month, name, amount))
        self.closed = month
        return paid_now

    def paid(self, name):
        return self.totals.get(name, 0)

    def owed(self, name, due):
        return due - self.paid(name)

    def payments(self):
        return list(self.made)

    def last(self):
        return self.closed
