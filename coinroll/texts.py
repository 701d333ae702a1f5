"""How amounts and numbers are written and read, and how rows of texts are set out as a table."""

from coinroll.coins import need_amount
from coinroll.errors import BadText
from coinroll.names import FIGURES

MOST_SIGNS = 30
PIECE = 1000000000000000000
PIECE_FIGURES = 18


# Python refuses to write out a number of some thousand figures at once, so it is written piece by piece.
def figures_of(number):
    pieces = []
    while number >= PIECE:
        pieces.append(str(number % PIECE).zfill(PIECE_FIGURES))
        number = number // PIECE
    pieces.append(str(number))
    return "".join(reversed(pieces))


def told_amount(amount):
    need_amount(amount)
    sign = "-" if amount < 0 else ""
    whole = figures_of(abs(amount) // 100)
    behind = str(abs(amount) % 100).zfill(2)
    return f"{sign}{whole}.{behind}"


# The figures are written out, as isdigit also takes those of other alphabets.
def are_figures(text):
    return len(text) > 0 and all([sign in FIGURES for sign in text])


def is_number_text(text):
    return are_figures(text) and (text == "0" or not text.startswith("0"))


# The length is looked at ahead of all else: Python also refuses to read some thousand figures.
def read_number(text, most_figures):
    if len(text) > most_figures or not is_number_text(text):
        raise BadText("a number is written in figures, without noughts ahead")
    return int(text)


def is_amount_text(text):
    whole = text[:-3]
    return is_number_text(whole) and text[-3] == "." and are_figures(text[-2:])


def read_amount(text):
    if not isinstance(text, str) or len(text) > MOST_SIGNS:
        raise BadText("an amount is a text of at most thirty signs")
    below = text.startswith("-")
    unsigned = text[1:] if below else text
    if not is_amount_text(unsigned) or text == "-0.00":
        raise BadText("an amount is written with two figures behind a point, as 12.05 or -0.07")
    amount = int(unsigned[:-3]) * 100 + int(unsigned[-2:])
    return -amount if below else amount


def widths_of(table):
    return [max([len(row[place]) for row in table]) for place in range(len(table[0]))]


def row_of(row, widths):
    cells = [text.rjust(width) for text, width in zip(row, widths)]
    if len(row) > 0:
        cells[0] = row[0].ljust(widths[0])
    return "  ".join(cells).rstrip(" ")


def rows_of(table):
    if len(table) == 0:
        return []
    widths = widths_of(table)
    return [row_of(row, widths) for row in table]
