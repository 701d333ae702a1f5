"""The rules of many years."""

from coinroll.errors import BadBook, NoYear
from coinroll.months import need_year
from coinroll.reading import rule_of

MOST_RULES = 8


def need_few(thing):
    if not isinstance(thing, list) or len(thing) > MOST_RULES:
        raise BadBook("the rules of a year are a list of 0 to 8")


def need_unlike_names(rules):
    if len(set([rule.name for rule in rules])) < len(rules):
        raise BadBook("two rules of a year have the same name")


# The rules are kept as texts and read anew for each asker, so that nobody holds what the book holds.
class RuleBook:
    def __init__(self):
        self.told = {}

    def put(self, year, rows):
        need_year(year)
        need_few(rows)
        rules = [rule_of(row) for row in rows]
        need_unlike_names(rules)
        self.told[year] = [rule.row() for rule in rules]

    def rows(self, year):
        need_year(year)
        ahead = [other for other in self.told if other <= year]
        if len(ahead) == 0:
            raise NoYear("no rules were told for that year or one ahead of it")
        return list(self.told[max(ahead)])

    def rules(self, year):
        return [rule_of(row) for row in self.rows(year)]

    def years(self):
        return sorted(self.told)
