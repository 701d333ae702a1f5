"""Rules that tell what is due of the bases of a year: the base class, and the four plain kinds."""

from coinroll.coins import is_number_within, is_parts, is_way, share_of
from coinroll.errors import BadRule
from coinroll.names import is_name

# Papers have columns and rows of these names, so no due may bear one.
NO_RULE_NAMES = ("base", "net", "month", "sums")
MOST_AMOUNT = 1000000000000


def is_rule_name(thing):
    return is_name(thing) and thing not in NO_RULE_NAMES


def is_rule_amount(thing):
    return is_number_within(thing, 0, MOST_AMOUNT)


def need_rule_amount(thing):
    if not is_rule_amount(thing):
        raise BadRule("an amount of a rule is a whole number from 0 to 10 ** 12")


def need_share(parts, way):
    if not is_parts(parts):
        raise BadRule("parts of a rule are a whole number from 0 to 20000")
    if not is_way(way):
        raise BadRule("a way of a rule is one of down, up, near, even")


def months_with_base(bases):
    return len([base for base in bases if base > 0])


class Rule:
    def __init__(self, name):
        if not is_rule_name(name):
            raise BadRule("a rule's name is 1 to 8 small letters, and none of base, net, month, sums")
        self.name = name

    def until(self, bases):
        raise BadRule("a rule without a kind tells nothing")

    def row(self):
        raise BadRule("a rule without a kind isn't written")

    # A rule that holds another one holds such a twin, so that it keeps nothing that was handed in.
    def twin(self):
        raise BadRule("a rule without a kind stands within no other one")

    # How many ontops stand one within another, this rule among them.
    def depth(self):
        return 0

    # Of no month at all this is nought: nothing is due till then, and no month lies ahead.
    def of_month(self, bases):
        return self.until(bases) - self.until(bases[:-1])


class Flat(Rule):
    def __init__(self, name, amount):
        Rule.__init__(self, name)
        need_rule_amount(amount)
        self.amount = amount

    def until(self, bases):
        return self.amount * months_with_base(bases)

    def row(self):
        return " ".join(["flat", self.name, str(self.amount)])

    def twin(self):
        return Flat(self.name, self.amount)


class Share(Rule):
    def __init__(self, name, parts, way):
        Rule.__init__(self, name)
        need_share(parts, way)
        self.parts = parts
        self.way = way

    def until(self, bases):
        return share_of(sum(bases), self.parts, self.way)

    def row(self):
        return " ".join(["share", self.name, str(self.parts), self.way])

    def twin(self):
        return Share(self.name, self.parts, self.way)


class Capped(Rule):
    def __init__(self, name, parts, most, way):
        Rule.__init__(self, name)
        need_share(parts, way)
        need_rule_amount(most)
        self.parts = parts
        self.most = most
        self.way = way

    def until(self, bases):
        return share_of(min(sum(bases), self.most), self.parts, self.way)

    def row(self):
        return " ".join(["capped", self.name, str(self.parts), str(self.most), self.way])

    def twin(self):
        return Capped(self.name, self.parts, self.most, self.way)


class Least(Rule):
    def __init__(self, name, parts, least, way):
        Rule.__init__(self, name)
        need_share(parts, way)
        need_rule_amount(least)
        self.parts = parts
        self.least = least
        self.way = way

    def until(self, bases):
        share = share_of(sum(bases), self.parts, self.way)
        return max(share, self.least * months_with_base(bases))

    def row(self):
        return " ".join(["least", self.name, str(self.parts), str(self.least), self.way])

    def twin(self):
        return Least(self.name, self.parts, self.least, self.way)
