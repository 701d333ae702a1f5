"""What is due of a month, and the statements of months."""

from coinroll.months import year_of


def dues_of(rules, bases):
    return tuple(sorted([(rule.name, rule.of_month(bases)) for rule in rules]))


# The last of the bases is that of the month itself; where there is none, nothing was earned.
def month_row(rules, bases):
    base = bases[-1] if len(bases) > 0 else 0
    dues = dues_of(rules, bases)
    net = base - sum([due for name, due in dues])
    return (base, dues, net)


def year_table(rules, bases):
    return [month_row(rules, bases[:count]) for count in range(1, len(bases) + 1)]


def statement_by(rules, month, bases):
    return (month,) + month_row(rules, bases)


def statement(book, month, bases):
    return statement_by(book.rules(year_of(month)), month, bases)
