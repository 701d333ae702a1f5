"""Rules as they are written: the rule that a text writes."""

from coinroll.bands import Bands
from coinroll.errors import BadRule, BadText
from coinroll.ontop import MOST_DEPTH, OnTop
from coinroll.rules import Capped, Flat, Least, Share
from coinroll.texts import read_number

# The greatest amount of a rule has so many figures.
MOST_FIGURES = 13


def number_of(word):
    return read_number(word, MOST_FIGURES)


def band_of(text):
    ends = text.split(":")
    if len(ends) != 2:
        raise BadRule("a band is written as BORDER:PARTS")
    return (number_of(ends[0]), number_of(ends[1]))


def bands_of(word):
    return tuple([band_of(text) for text in word.split(",")])


def plain_rule(words):
    if words[0] == "flat" and len(words) == 3:
        return Flat(words[1], number_of(words[2]))
    if words[0] == "share" and len(words) == 4:
        return Share(words[1], number_of(words[2]), words[3])
    if words[0] == "capped" and len(words) == 5:
        return Capped(words[1], number_of(words[2]), number_of(words[3]), words[4])
    if words[0] == "least" and len(words) == 5:
        return Least(words[1], number_of(words[2]), number_of(words[3]), words[4])
    if words[0] == "bands" and len(words) == 4:
        return Bands(words[1], bands_of(words[2]), words[3])
    raise BadRule("no rule is written so")


def is_ontop(words):
    return words[0] == "ontop" and len(words) > 5 and words[4] == "of"


# The depth is counted while reading: a text of very many ontops would go deeper than Python can.
def rule_of_words(words, depth):
    if not is_ontop(words):
        return plain_rule(words)
    if depth == MOST_DEPTH:
        raise BadRule("at most three ontops stand one within another")
    within = rule_of_words(words[5:], depth + 1)
    return OnTop(words[1], number_of(words[2]), words[3], within)


def rule_of(text):
    if not isinstance(text, str):
        raise BadRule("a rule is written as a text")
    try:
        return rule_of_words(text.split(" "), 0)
    except BadText:
        raise BadRule("numbers of a rule are written in figures, without noughts ahead") from None
