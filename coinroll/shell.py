"""Lines for an office, and its answers."""

from coinroll.errors import (
    BadAmount, BadBook, BadClose, BadDay, BadEntry, BadLine, BadMonth, BadRule, BadShare, BadText, BadYear,
    NoMark, NoPerson, NoYear, TooMany,
)
from coinroll.lines import entry_of
from coinroll.months import read_month
from coinroll.names import is_name
from coinroll.office import Office
from coinroll.papers import paper
from coinroll.texts import read_number, told_amount

DONE = "done"
MOST_FIGURES = 30


def need_count(words, count):
    if len(words) != count:
        raise BadLine("that line has more words or fewer")


def number_of(word):
    try:
        return read_number(word, MOST_FIGURES)
    except BadText:
        raise BadLine("a number has up to thirty figures, without noughts ahead") from None


def name_of(word):
    if not is_name(word):
        raise BadLine("a name is 1 to 8 small letters")
    return word


def named_amounts(pairs):
    return "".join([" " + name + " " + told_amount(amount) for name, amount in pairs])


def day_line(office, words):
    need_count(words, 2)
    office.go_on(number_of(words[1]))
    return DONE


def rules_line(office, line):
    parts = line.split(" ; ")
    words = parts[0].split(" ")
    need_count(words, 2)
    office.rules(number_of(words[1]), parts[1:])
    return DONE


def journal_line(office, line):
    told = entry_of(line)
    office.put(told[0], told[1])
    return DONE


def close_line(office, words):
    need_count(words, 2)
    payments = office.close(read_month(words[1]))
    return "paid" + named_amounts(payments[0])


def statement_line(office, words):
    need_count(words, 3)
    person = name_of(words[1])
    told = office.statement(person, read_month(words[2]))
    return "base " + told_amount(told[1]) + named_amounts(told[2]) + " net " + told_amount(told[3])


def paper_line(office, words):
    need_count(words, 4)
    person = name_of(words[1])
    first = read_month(words[2])
    return paper(office.some(person, first, read_month(words[3])))


def owed_line(office, words):
    need_count(words, 2)
    return told_amount(office.owed(name_of(words[1])))


def due_line(office, words):
    need_count(words, 2)
    return told_amount(office.due(name_of(words[1])))


def told_answer(office, line):
    words = line.split(" ")
    if words[0] == "day":
        return day_line(office, words)
    if words[0] == "rules":
        return rules_line(office, line)
    if words[0] == "close":
        return close_line(office, words)
    if words[0] == "statement":
        return statement_line(office, words)
    if words[0] == "paper":
        return paper_line(office, words)
    if words[0] == "owed":
        return owed_line(office, words)
    if words[0] == "due":
        return due_line(office, words)
    return journal_line(office, line)


def answer(office, line):
    try:
        return told_answer(office, line)
    except BadAmount:
        return "refused amount"
    except BadShare:
        return "refused share"
    except BadText:
        return "refused text"
    except BadMonth:
        return "refused month"
    except BadYear:
        return "refused year"
    except BadRule:
        return "refused rule"
    except BadBook:
        return "refused book"
    except NoYear:
        return "refused noyear"
    except BadDay:
        return "refused day"
    except BadEntry:
        return "refused entry"
    except NoMark:
        return "refused nomark"
    except NoPerson:
        return "refused noperson"
    except TooMany:
        return "refused many"
    except BadClose:
        return "refused close"
    except BadLine:
        return "refused line"


def play(lines):
    office = Office()
    return [answer(office, line) for line in lines]
