"""Entries of a journal as lines."""

from coinroll.errors import BadLine, BadText
from coinroll.journal import is_entry
from coinroll.months import month_text, read_month
from coinroll.names import is_mark
from coinroll.texts import read_amount, read_number, told_amount

RANK_FIGURES = 2


def line_of(mark, entry):
    if entry is None:
        return f"{mark} out"
    words = [mark, entry[0], entry[1], month_text(entry[2])]
    if entry[0] == "wage":
        words.append(str(entry[3]))
    words.append(told_amount(entry[-1]))
    return " ".join(words)


def entry_of_words(words):
    if words == ["out"]:
        return None
    if words[:1] == ["wage"] and len(words) == 5:
        rank = read_number(words[3], RANK_FIGURES)
        return ("wage", words[1], read_month(words[2]), rank, read_amount(words[4]))
    if words[:1] == ["extra"] and len(words) == 4:
        return ("extra", words[1], read_month(words[2]), read_amount(words[3]))
    raise BadLine("no entry is written so")


def entry_of(line):
    if not isinstance(line, str):
        raise BadLine("a line is a text")
    words = line.split(" ")
    try:
        entry = entry_of_words(words[1:])
    except BadText:
        raise BadLine("a month, a rank or an amount isn't written so") from None
    if not is_mark(words[0]) or (entry is not None and not is_entry(entry)):
        raise BadLine("a line has a mark, a name, and numbers within their bounds")
    return (words[0], entry)
