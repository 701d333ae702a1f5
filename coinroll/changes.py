"""Many statements: those of a stretch of months, their sums, and how they differ."""

from coinroll.errors import BadMonth
from coinroll.journal import bases_of
from coinroll.months import need_stretch, span, year_of
from coinroll.reckoning import statement_by

MOST_MONTHS = 120


def statements(book, journal, person, first, last, day):
    pairs = journal.of_person(person, day)
    need_stretch(first, last, MOST_MONTHS)
    # A year's rules are asked for once, as the book reads them anew each time.
    rules = {}
    made = []
    for month in span(first, last):
        year = year_of(month)
        if year not in rules:
            rules[year] = book.rules(year)
        made.append(statement_by(rules[year], month, bases_of(pairs, month)))
    return made


# One tuple of pairs of a name and an amount, by names rising, of several such.
def dues_together(several):
    together = {}
    for dues in several:
        for name, due in dues:
            together[name] = together.get(name, 0) + due
    return tuple(sorted(together.items()))


def sums(some):
    base = sum([one[1] for one in some])
    net = sum([one[3] for one in some])
    return (base, dues_together([one[2] for one in some]), net)


# No due is called base or net, so both may stand among the dues.
def amounts_of(one):
    return one[2] + (("base", one[1]), ("net", one[3]))


def month_differences(old, new):
    less = [(name, -amount) for name, amount in amounts_of(old)]
    both = dues_together([amounts_of(new), less])
    return [(new[0], name, amount) for name, amount in both if amount != 0]


def differences(old, new):
    if [one[0] for one in old] != [one[0] for one in new]:
        raise BadMonth("the months of both aren't the same")
    told = []
    for before, after in zip(old, new):
        told.extend(month_differences(before, after))
    return sorted(told, key=lambda row: (row[0], row[1]))
