"""Statements as a paper: a table with a head and a row of sums."""

from coinroll.changes import sums
from coinroll.errors import BadText
from coinroll.months import month_text, read_month
from coinroll.names import rise
from coinroll.rules import is_rule_name
from coinroll.texts import read_amount, rows_of, told_amount

NO_DUE = "-"


def due_text(dues, name):
    for other, due in dues:
        if other == name:
            return told_amount(due)
    return NO_DUE


def cells_of(title, base, dues, net, names):
    return [title, told_amount(base)] + [due_text(dues, name) for name in names] + [told_amount(net)]


def paper(some):
    total = sums(some)
    names = [name for name, due in total[1]]
    table = [["month", "base"] + names + ["net"]]
    for one in some:
        table.append(cells_of(month_text(one[0]), one[1], one[2], one[3], names))
    table.append(cells_of("sums", total[0], total[1], total[2], names))
    return "\n".join(rows_of(table))


def words_of(row):
    return [word for word in row.split(" ") if word != ""]


def names_of_head(words):
    names = words[2:-1]
    if not all([is_rule_name(name) for name in names]):
        raise BadText("the dues of a paper are called as rules are")
    return names


def statement_of(words, names):
    if len(words) != len(names) + 3:
        raise BadText("a row of a paper has as many words as its head")
    pairs = [(name, word) for name, word in zip(names, words[2:-1]) if word != NO_DUE]
    dues = tuple([(name, read_amount(word)) for name, word in pairs])
    base = read_amount(words[1])
    net = read_amount(words[-1])
    if net != base - sum([due for name, due in dues]):
        raise BadText("a net is the base less all dues")
    return (read_month(words[0]), base, dues, net)


# The head, blanks, sums and dues that nobody has aren't looked at one by one: written anew, the paper must be the same.
def read_paper(text):
    if not isinstance(text, str):
        raise BadText("a paper is a text")
    rows = [words_of(row) for row in text.split("\n")]
    names = names_of_head(rows[0])
    some = [statement_of(words, names) for words in rows[1:-1]]
    if not rise([one[0] for one in some]):
        raise BadText("the months of a paper rise")
    if paper(some) != text:
        raise BadText("a paper is written just so")
    return some
