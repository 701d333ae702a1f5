"""A book of rules as a text."""

from coinroll.errors import BadBook, BadRule, BadText
from coinroll.months import year_text
from coinroll.names import rise
from coinroll.rulebook import RuleBook
from coinroll.texts import are_figures

HEAD = "year "


def year_rows(book, year):
    return [HEAD + year_text(year)] + book.rows(year)


def text_of(book):
    rows = []
    for year in book.years():
        rows.extend(year_rows(book, year))
    return "\n".join(rows)


def is_head(row):
    return row.startswith(HEAD) and len(row) == len(HEAD) + 4 and are_figures(row[len(HEAD):])


# Each year's rows, as pairs of the year and a list of its rules' rows.
def parts_of(rows):
    parts = []
    for row in rows:
        if is_head(row):
            parts.append((int(row[len(HEAD):]), []))
        elif len(parts) == 0:
            raise BadText("a book begins with a year")
        else:
            parts[-1][1].append(row)
    return parts


def book_of(text):
    if not isinstance(text, str):
        raise BadText("a book is written as a text")
    book = RuleBook()
    if text == "":
        return book
    parts = parts_of(text.split("\n"))
    if not rise([part[0] for part in parts]):
        raise BadText("the years of a book rise")
    try:
        for part in parts:
            book.put(part[0], part[1])
    except BadBook:
        raise BadText("a year of a book has at most 8 rules, of unlike names") from None
    except BadRule:
        raise BadText("a row of a book is a year or a rule") from None
    return book
