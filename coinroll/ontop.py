"""The rule that takes a share of what is due by another rule within it."""

from coinroll.coins import share_of
from coinroll.errors import BadRule
from coinroll.rules import Rule, need_share

MOST_DEPTH = 3


class OnTop(Rule):
    def __init__(self, name, parts, way, rule):
        Rule.__init__(self, name)
        need_share(parts, way)
        if not isinstance(rule, Rule):
            raise BadRule("an ontop has a rule within it")
        self.parts = parts
        self.way = way
        self.within = rule.twin()
        if self.depth() > MOST_DEPTH:
            raise BadRule("at most three ontops stand one within another")

    def until(self, bases):
        return share_of(self.within.until(bases), self.parts, self.way)

    def row(self):
        return " ".join(["ontop", self.name, str(self.parts), self.way, "of", self.within.row()])

    def twin(self):
        return OnTop(self.name, self.parts, self.way, self.within)

    def depth(self):
        return self.within.depth() + 1
