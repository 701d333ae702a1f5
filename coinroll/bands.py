"""The rule that takes other parts of each piece of all bases together."""

from coinroll.coins import is_parts, is_way, rounded
from coinroll.errors import BadRule
from coinroll.names import rise
from coinroll.rules import Rule, is_rule_amount

MOST_BANDS = 12


def is_band(thing):
    if not isinstance(thing, tuple) or len(thing) != 2:
        return False
    return is_rule_amount(thing[0]) and is_parts(thing[1])


def are_bands(thing):
    if not isinstance(thing, tuple) or len(thing) < 1 or len(thing) > MOST_BANDS:
        return False
    if not all([is_band(row) for row in thing]):
        return False
    borders = [row[0] for row in thing]
    return borders[0] == 0 and rise(borders)


class Bands(Rule):
    def __init__(self, name, rows, way):
        Rule.__init__(self, name)
        if not are_bands(rows):
            raise BadRule("bands are a tuple of 1 to 12 pairs of a border and parts, the borders rising from 0")
        if not is_way(way):
            raise BadRule("a way of a rule is one of down, up, near, even")
        self.bands = tuple([(row[0], row[1]) for row in rows])
        self.way = way

    # From the last band down, what isn't taken yet ends where the band above begins.
    def until(self, bases):
        left = sum(bases)
        together = 0
        for band in reversed(self.bands):
            if left > band[0]:
                together = together + (left - band[0]) * band[1]
                left = band[0]
        return rounded(together, self.way)

    def row(self):
        pairs = ",".join([str(band[0]) + ":" + str(band[1]) for band in self.bands])
        return " ".join(["bands", self.name, pairs, self.way])

    def twin(self):
        return Bands(self.name, self.bands, self.way)
