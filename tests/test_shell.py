import unittest

from coinroll import errors
from coinroll.office import Office
from coinroll.papers import read_paper
from coinroll.shell import answer, play

START = [
    "rules 2031 ; share tax 1000 near ; flat fee 500",
    "a1 wage ann 2031-04 0 1200.00",
    "b1 wage bob 2031-05 0 3.00",
]

WORDS = {
    "BadAmount": "amount", "BadShare": "share", "BadText": "text", "BadMonth": "month", "BadYear": "year", "BadRule": "rule",
    "BadBook": "book", "NoYear": "noyear", "BadDay": "day", "BadEntry": "entry", "NoMark": "nomark", "NoPerson": "noperson",
    "TooMany": "many", "BadClose": "close", "BadLine": "line",
}

LINES = ["day 5", "rules 2031", "rules 2031 ; flat a 1", "a1 wage ann 2031-04 0 1200.00", "x extra ann 2031-05 80.00", "a1 out",
         "close 2031-05", "statement ann 2031-04", "paper ann 2031-04 2031-05", "owed ann", "due tax"]

NO_NAMES = ["", "Ann", "ANN", "ann1", "1", "abcdefghi", "a" * 5000, "a-b", "ann\n", "\tann"]
NO_MONTHS = ["", "2031-4", "2031-13", "2031-00", "203-04", "12031-04", "2031/04", "2031", "24375", "0", "-1", "2031-04\n", "a", "1" * 5000]
NO_NUMBERS = ["", "01", "00", "007", "-1", "-0", "+1", "1.0", "1,0", "1_0", "a", "1a", "0x1", "1e3", "1\n", "1" * 31, "9" * 31, "0" * 31,
              "1" * 5000]


def started():
    office = Office()
    for line in START:
        answer(office, line)
    return office


class Refusing:
    """In the office's stead, to see that each refusal has its own word."""

    def __init__(self, kind):
        self.kind = kind

    def refuse(self, *things):
        raise self.kind("words")

    go_on = rules = put = close = statement = some = owed = due = refuse


class Listening:
    """In the office's stead, to hear what is handed on."""

    def __init__(self):
        self.heard = []

    def go_on(self, day):
        self.heard.append(("go_on", day))

    def rules(self, year, rows):
        self.heard.append(("rules", year, rows))

    def put(self, mark, entry):
        self.heard.append(("put", mark, entry))


class TestAnswers(unittest.TestCase):
    def check(self, *told):
        office = started()
        for line, text in told:
            with self.subTest(line):
                self.assertEqual(answer(office, line), text)
        return office

    def test_what_is_done(self):
        self.assertEqual(play(START), ["done", "done", "done"])
        office = self.check(("day 0", "done"), ("day 5", "done"), ("day 5", "done"), ("x extra ann 2031-05 80.00", "done"), ("a1 out", "done"))
        self.assertEqual(office.day(), 5)
        self.assertEqual(office.journal(), ["b1 wage bob 2031-05 0 3.00", "x extra ann 2031-05 80.00"])

    def test_close(self):
        self.check(
            ("close 2031-03", "paid"), ("close 2031-04", "paid ann 1075.00"), ("x extra bob 2031-05 80.00", "done"),
            ("close 2031-05", "paid ann 1075.00 bob 69.70"), ("close 2031-06", "paid ann 1075.00"),
            ("close 2031-07", "paid ann 1075.00"),
        )

    def test_statement(self):
        self.check(
            ("statement ann 2031-04", "base 1200.00 fee 5.00 tax 120.00 net 1075.00"),
            ("statement ann 2031-03", "base 0.00 fee 0.00 tax 0.00 net 0.00"),
            ("statement bob 2031-05", "base 3.00 fee 5.00 tax 0.30 net -2.30"),
            ("rules 2031", "done"), ("statement ann 2031-04", "base 1200.00 net 1200.00"),
        )

    def test_paper(self):
        office = self.check(
            ("paper ann 2031-03 2031-05", "\n".join([
                "month       base    fee     tax      net",
                "2031-03     0.00   0.00    0.00     0.00",
                "2031-04  1200.00   5.00  120.00  1075.00",
                "2031-05  1200.00   5.00  120.00  1075.00",
                "sums     2400.00  10.00  240.00  2150.00",
            ])),
            ("paper ann 2031-05 2031-04", "month  base   net\nsums   0.00  0.00"),
        )
        for first, last in (("2031-04", "2031-04"), ("2031-01", "2032-06")):
            some = read_paper(answer(office, f"paper bob {first} {last}"))
            self.assertEqual(some, office.some("bob", some[0][0], some[-1][0]))

    def test_owed_and_due(self):
        self.check(
            ("owed ann", "0.00"), ("due tax", "0.00"), ("due fee", "0.00"), ("due other", "0.00"), ("close 2031-04", "paid ann 1075.00"),
            ("owed ann", "0.00"), ("due tax", "0.00"), ("x extra ann 2031-04 80.00", "done"), ("owed ann", "72.00"), ("due tax", "8.00"),
            ("x out", "done"), ("a1 wage ann 2031-04 0 1000.00", "done"), ("owed ann", "-180.00"), ("due tax", "-20.00"),
            ("due fee", "0.00"), ("due other", "0.00"), ("due base", "0.00"), ("owed bob", "0.00"),
        )

    def test_rules(self):
        self.check(("rules 2032", "done"), ("statement ann 2032-01", "base 1200.00 net 1200.00"))
        self.check(("rules 2032 ; flat a 1", "done"), ("statement ann 2032-01", "base 1200.00 a 0.01 net 1199.99"))
        self.check(
            ("rules 2032 ; flat b 100 ; bands a 0:0,100000:5000 down ; ontop c 10000 up of flat a 7", "done"),
            ("statement ann 2032-01", "base 1200.00 a 100.00 b 1.00 c 0.07 net 1098.93"),
        )
        self.check(("rules 2032" + "".join(f" ; flat {name} 1" for name in "abcdefgh"), "done"))
        self.check(("rules 0", "done"), ("statement ann 0000-01", "base 0.00 net 0.00"), ("rules 9999", "done"))

    def test_what_is_handed_on(self):
        office = Listening()
        for line in ("day 0", "day 12", "day " + "9" * 30, "rules 0", "rules 9999 ; a ; b c ;  d", "rules " + "1" * 30 + " ; ", "a out",
                     "b extra ann 0000-01 0.01"):
            self.assertEqual(answer(office, line), "done")
        self.assertEqual(office.heard, [
            ("go_on", 0), ("go_on", 12), ("go_on", 10 ** 30 - 1), ("rules", 0, []), ("rules", 9999, ["a", "b c", " d"]),
            ("rules", int("1" * 30), [""]), ("put", "a", None), ("put", "b", ("extra", "ann", 0, 1)),
        ])

    def test_marks_like_the_words_within_a_journals_line(self):
        self.check(("wage wage ann 2031-04 0 1.00", "done"), ("out out", "refused nomark"), ("extra extra ann 2031-04 1.00", "done"),
                   ("paid out", "refused nomark"), ("done wage ann 2031-04 0 1.00", "done"), ("done out", "done"))


class TestRefusals(unittest.TestCase):
    def refuse(self, word, line, office=None):
        office = office or started()
        before = (office.day(), office.journal())
        with self.subTest(line[:80]):
            self.assertEqual(answer(office, line), "refused " + word)
            self.assertEqual((office.day(), office.journal()), before)

    def test_each_refusals_word(self):
        for name, word in WORDS.items():
            for line in LINES:
                self.assertEqual(answer(Refusing(getattr(errors, name)), line), "refused " + word)

    def test_what_the_office_refuses(self):
        office = started()
        answer(office, "day 5")
        answer(office, "close 2031-05")
        self.refuse("day", "day 4", office)
        self.refuse("year", "rules 10000", office)
        self.refuse("year", "rules " + "9" * 30, office)
        self.refuse("rule", "rules 2031 ; none", office)
        self.refuse("rule", "rules 2031 ; flat a 01", office)
        self.refuse("rule", "rules 2031 ; flat a 1 ; flat base 1", office)
        self.refuse("book", "rules 2031 ; flat a 1 ; flat a 2", office)
        self.refuse("book", "rules 2031" + " ; flat a 1" * 9, office)
        self.refuse("nomark", "z out", office)
        self.refuse("close", "close 2031-05", office)
        self.refuse("close", "close 2031-04", office)
        self.refuse("month", "close 2041-05", office)
        self.refuse("noperson", "statement eve 2031-04", office)
        self.refuse("noyear", "statement ann 2030-12", office)
        self.refuse("noperson", "paper eve 2031-04 2031-05", office)
        self.refuse("noyear", "paper ann 2030-12 2031-05", office)
        self.refuse("month", "paper ann 2031-01 2041-01", office)
        self.refuse("noperson", "owed eve", office)
        answer(office, "c wage ann 2030-12 0 1.00")
        self.refuse("noyear", "owed ann", office)
        self.refuse("noyear", "due tax", office)
        self.refuse("noyear", "close 2031-06", office)
        answer(office, "c wage ann 0000-01 0 1.00")
        self.refuse("month", "owed ann", office)
        self.refuse("month", "due tax", office)
        for number in range(87):
            self.assertEqual(answer(office, f"m{number} wage bob 2031-05 0 3.00"), "done")
        self.refuse("many", "z wage bob 2031-05 0 3.00", office)
        self.refuse("many", "z out", office)

    def test_the_order_in_which_rules_are_refused(self):
        self.refuse("year", "rules 10000 ; none")
        self.refuse("book", "rules 2031" + " ; none" * 9)
        self.refuse("rule", "rules 2031 ; flat a 1 ; flat a 1 ; none")

    def test_a_word_more_or_less(self):
        for line in LINES:
            if ";" not in line:
                self.refuse("line", line + " 1")
                self.refuse("line", line + " ann")
                self.refuse("line", line + " 2031-04")
                self.refuse("line", line.rpartition(" ")[0])
        for line in ("rules 2031 2032", "rules 2031 ;", "rules ; flat a 1", "rules", "rules 2031 flat a 1", "rules 2031 2032 ; flat a 1",
                     "rules 2031; flat a 1", "day", "close", "statement", "statement ann", "paper", "paper ann", "paper ann 2031-04",
                     "owed", "due", "", "a1", "ann", "none", "a1 none", "help", "days 5", "Day 5", "DAY 5", "closed 2031-05"):
            self.refuse("line", line)

    def test_blanks(self):
        for line in LINES:
            self.refuse("line", " " + line)
            if ";" not in line:
                self.refuse("line", line + " ")
                for place in range(len(line)):
                    if line[place] == " ":
                        self.refuse("line", line[:place] + " " + line[place:])
                        self.refuse("line", line[:place] + line[place + 1:])
                        self.refuse("line", line[:place] + "\t" + line[place + 1:])
        for line in ("rules  2031 ; flat a 1", "rules 2031  ; flat a 1", "rules2031 ; flat a 1"):
            self.refuse("line", line)
        for line in ("rules 2031 ;  flat a 1", "rules 2031 ; flat a 1 ", "rules 2031 ; flat  a 1", "rules 2031 ; flat a 1 ;",
                     "rules 2031 ; ", "rules 2031 ; flat a 1 ; ", "rules 2031 ; flat a 1;flat b 1", "rules 2031 ; ; flat a 1"):
            self.refuse("rule", line)

    def test_names_that_are_none(self):
        for name in NO_NAMES:
            self.refuse("line", f"statement {name} 2031-04")
            self.refuse("line", f"paper {name} 2031-04 2031-05")
            self.refuse("line", f"owed {name}")
            self.refuse("line", f"due {name}")
            self.refuse("line", f"z wage {name} 2031-04 0 1.00")
            self.refuse("line", f"z extra {name} 2031-04 1.00")

    def test_numbers_that_are_none(self):
        for number in NO_NUMBERS:
            self.refuse("line", f"day {number}")
            self.refuse("line", f"rules {number}")
            self.refuse("line", f"rules {number} ; flat a 1")
            self.refuse("line", f"rules {number} ; none")
            self.refuse("line", f"z wage ann 2031-04 {number} 1.00")

    def test_months_that_are_written_otherwise(self):
        for month in NO_MONTHS:
            self.refuse("text", f"close {month}")
            self.refuse("text", f"statement ann {month}")
            self.refuse("text", f"paper ann {month} 2031-05")
            self.refuse("text", f"paper ann 2031-04 {month}")
            self.refuse("text", f"paper ann {month} {month}")
            self.refuse("line", f"z wage ann {month} 0 1.00")
            self.refuse("line", f"z extra ann {month} 1.00")

    def test_amounts_that_are_none(self):
        for amount in ("", "1", "1.0", "01.00", "-1.00", "-0.00", "100000000.01", "1" * 5000):
            self.refuse("line", f"z wage ann 2031-04 0 {amount}")
            self.refuse("line", f"z extra ann 2031-04 {amount}")

    def test_how_many_words_ahead_of_all_else(self):
        for line in ("statement Ann 2031-13 1", "statement 2031-13", "close 2031-13 1", "paper Ann 2031-13", "paper ann 2031-13",
                     "paper ann 2031-13 2031-13 1", "close 2031-13 2031-13", "statement ann 2031-13 2031-13", "rules 01 02"):
            self.refuse("line", line)

    def test_each_word_from_the_left(self):
        self.refuse("line", "statement Ann 2031-13")
        self.refuse("line", "statement Ann 2031-04")
        self.refuse("text", "statement ann 2031-13")
        self.refuse("line", "paper Ann 2031-13 2031-13")

    def test_texts_ahead_of_what_the_office_refuses(self):
        self.refuse("text", "statement eve 2031-13")
        self.refuse("text", "paper eve 2031-04 2031-13")
        self.refuse("text", "paper eve 2031-13 2031-04")
        self.refuse("text", "paper ann 2030-12 2031-13")
        self.refuse("line", "rules 010000 ; none")
        self.refuse("line", "z wage ann 2031-13 0 1.00")

    def test_marks_that_are_words_which_begin_other_lines(self):
        for word in ("day", "rules", "close", "statement", "paper", "owed", "due"):
            self.refuse("line", f"{word} wage ann 2031-04 0 1.00")
            self.refuse("line", f"{word} extra ann 2031-04 1.00")
        self.refuse("line", "day out")
        self.refuse("line", "rules out")
        self.refuse("text", "close out")
        self.refuse("line", "statement out")
        self.refuse("line", "paper out")
        self.refuse("noperson", "owed out")
        office = started()
        self.assertEqual(answer(office, "due out"), "0.00")
        self.assertEqual(answer(office, "z wage out 2031-04 0 1.00"), "done")
        self.assertEqual(answer(office, "owed out"), "0.00")

    def test_what_is_refused_changes_nothing(self):
        office = started()
        answer(office, "close 2031-04")
        answer(office, "x extra ann 2031-04 80.00")
        asked = ["owed ann", "due tax", "due fee", "paper ann 2031-01 2032-12", "statement bob 2031-05"]
        before = [answer(office, line) for line in asked]
        for line in ("rules 2031 ; flat a 1 ; none", "rules 2031 ; flat a 1 ; flat a 1", "close 2031-04", "close 2051-04", "z out",
                     "a1 wage ann 2031-04 100 1.00", "close 2031-13", "rules 02031", "day 01"):
            self.assertTrue(answer(office, line).startswith("refused "))
            self.assertEqual([answer(office, asking) for asking in asked], before)


class TestPlay(unittest.TestCase):
    def test_no_line(self):
        self.assertEqual(play([]), [])

    def test_several_lines(self):
        lines = START + ["close 2031-05", "owed bob", "none", "day 3", "day 2", "due fee"]
        answers = ["done", "done", "done", "paid ann 2150.00", "-2.30", "refused line", "done", "refused day", "0.00"]
        self.assertEqual(play(lines), answers)

    def test_each_play_has_a_new_office(self):
        self.assertEqual(play(START + ["close 2031-05"]), play(START + ["close 2031-05"]))
        self.assertEqual(play(["owed ann"]), ["refused noperson"])

    def test_the_list_of_lines_stays_as_it_was(self):
        lines = START + ["close 2031-05"]
        told = play(lines)
        self.assertEqual(lines, START + ["close 2031-05"])
        told.clear()
        self.assertEqual(len(play(lines)), 4)


if __name__ == "__main__":
    unittest.main()
