"""Months and years: which numbers they are, how they are written, and stretches of them."""

from coinroll.coins import is_number_within
from coinroll.errors import BadMonth, BadText, BadYear
from coinroll.texts import are_figures

YEAR_MONTHS = 12
LAST_YEAR = 9999
LAST_MONTH = 119999
LONGEST_SPAN = 1200


def need_month(thing):
    if not is_number_within(thing, 0, LAST_MONTH):
        raise BadMonth("a month is a whole number from 0 to 119999")


def need_year(thing):
    if not is_number_within(thing, 0, LAST_YEAR):
        raise BadYear("a year is a whole number from 0 to 9999")


def year_of(month):
    need_month(month)
    return month // YEAR_MONTHS


def place_of(month):
    need_month(month)
    return month % YEAR_MONTHS + 1


def year_text(year):
    return str(year).zfill(4)


def month_text(month):
    place = str(place_of(month)).zfill(2)
    return year_text(year_of(month)) + "-" + place


def is_month_text(thing):
    if not isinstance(thing, str) or len(thing) != 7:
        return False
    return are_figures(thing[:4]) and thing[4] == "-" and are_figures(thing[5:])


def read_month(text):
    if not is_month_text(text):
        raise BadText("a month is written as 2031-04")
    place = int(text[5:])
    if place < 1 or place > YEAR_MONTHS:
        raise BadText("a month's place in its year is 01 to 12")
    return int(text[:4]) * YEAR_MONTHS + place - 1


def months_of(year):
    need_year(year)
    return list(range(year * YEAR_MONTHS, (year + 1) * YEAR_MONTHS))


# How long a stretch may be is told by its caller, as not all bounds are alike.
def need_stretch(first, last, most):
    need_month(first)
    need_month(last)
    if last - first + 1 > most:
        raise BadMonth("these are too many months")


def span(first, last):
    need_stretch(first, last, LONGEST_SPAN)
    return list(range(first, last + 1))
