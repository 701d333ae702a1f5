import unittest

from coinroll.errors import BadText
from coinroll.papers import paper, read_paper

from helper import no_texts

APRIL = 2031 * 12 + 3

SOME = [
    [],
    [(APRIL, 0, (), 0)],
    [(0, 5, (), 5), (119999, 7, (), 7)],
    [(APRIL, 120000, (("fee", 500), ("tax", 12000)), 107500)],
    [(APRIL, 120000, (("fee", 500), ("tax", 12000)), 107500), (APRIL + 1, 128000, (("fee", 500), ("tax", 12800)), 114700)],
    [(APRIL, 100, (("a", 150),), -50), (APRIL + 9, 0, (("b", 0),), 0), (APRIL + 10, 7, (("a", 1), ("c", 10 ** 12)), 6 - 10 ** 12)],
    [(APRIL, 1, (("abcdefgh", 1),), 0), (APRIL + 1, 1, (), 1), (APRIL + 2, 10 ** 20, (("zzzzzzzz", -5),), 10 ** 20 + 5)],
    [(APRIL, -9, (("a", -1), ("b", -8)), 0), (APRIL + 12, -1, (("b", 8),), -9)],
    [(APRIL + place, place, tuple((name, place) for name in "abcdefgh"), -7 * place) for place in range(24)],
    [(APRIL, 10 ** 28 - 1, (("a", 1),), 10 ** 28 - 2)],
]


class TestPaper(unittest.TestCase):
    def test_none(self):
        self.assertEqual(paper([]), "month  base   net\nsums   0.00  0.00")

    def test_one(self):
        self.assertEqual(paper(SOME[3]), "\n".join([
            "month       base   fee     tax      net",
            "2031-04  1200.00  5.00  120.00  1075.00",
            "sums     1200.00  5.00  120.00  1075.00",
        ]))

    def test_several(self):
        self.assertEqual(paper(SOME[4]), "\n".join([
            "month       base    fee     tax      net",
            "2031-04  1200.00   5.00  120.00  1075.00",
            "2031-05  1280.00   5.00  128.00  1147.00",
            "sums     2480.00  10.00  248.00  2222.00",
        ]))

    def test_dues_that_some_havent_and_amounts_below_nought(self):
        self.assertEqual(paper(SOME[5]), "\n".join([
            "month    base     a     b               c              net",
            "2031-04  1.00  1.50     -               -            -0.50",
            "2032-01  0.00     -  0.00               -             0.00",
            "2032-02  0.07  0.01     -  10000000000.00   -9999999999.94",
            "sums     1.07  1.51  0.00  10000000000.00  -10000000000.44",
        ]))

    def test_the_list_stays_as_it_was(self):
        some = list(SOME[5])
        paper(some)
        self.assertEqual(some, SOME[5])


class TestReadPaper(unittest.TestCase):
    def test_each_paper_is_read_back(self):
        for some in SOME:
            with self.subTest(some):
                self.assertEqual(read_paper(paper(some)), some)

    def test_kinds(self):
        read = read_paper(paper(SOME[5]))
        self.assertIsInstance(read, list)
        for one in read:
            self.assertIsInstance(one, tuple)
            self.assertIsInstance(one[2], tuple)
            self.assertTrue(all(isinstance(pair, tuple) for pair in one[2]))

    def test_a_told_list_is_the_askers_own(self):
        text = paper(SOME[4])
        read_paper(text).clear()
        self.assertEqual(read_paper(text), SOME[4])


class TestRefused(unittest.TestCase):
    def refuse(self, text):
        with self.assertRaises(BadText, msg=text):
            read_paper(text)

    def refuse_or_read(self, text):
        """What isn't refused must be the very paper of what is read."""
        try:
            some = read_paper(text)
        except BadText:
            return
        self.assertEqual(paper(some), text)
        for month, base, dues, net in some:
            self.assertEqual(net, base - sum(due for name, due in dues))

    def test_a_sign_less(self):
        for some in SOME[:8]:
            text = paper(some)
            for place in range(len(text)):
                self.refuse_or_read(text[:place] + text[place + 1:])

    def test_a_sign_more_or_another_one(self):
        for some in SOME[:8]:
            text = paper(some)
            for place in range(len(text) + 1):
                for sign in " \n-.019ab":
                    self.refuse_or_read(text[:place] + sign + text[place:])
                    self.refuse_or_read(text[:place] + sign + text[place + 1:])

    def test_another_figure_is_refused(self):
        text = paper(SOME[4])
        for place in range(len(text)):
            if text[place].isdigit() and text[:place].rfind("\n") + 8 < place:
                other = "1" if text[place] == "0" else "0"
                self.refuse(text[:place] + other + text[place + 1:])

    def test_blanks_more_or_less(self):
        for some in SOME:
            text = paper(some)
            for place in range(len(text) + 1):
                self.refuse(text[:place] + " " + text[place:])
                if text[place:place + 1] == " ":
                    self.refuse(text[:place] + text[place + 1:])
                    self.refuse(text[:place] + "\t" + text[place + 1:])

    def test_line_ends(self):
        for some in SOME:
            text = paper(some)
            self.refuse(text + "\n")
            self.refuse("\n" + text)
            self.refuse(text.replace("\n", "\n\n", 1))
            self.refuse(text.replace("\n", "\r\n"))
            self.refuse(text.replace("\n", " ", 1))
            self.refuse(text.replace("\n", "", 1))

    def test_a_row_left_out_doubled_or_moved(self):
        for some in SOME[1:]:
            rows = paper(some).split("\n")
            for place in range(len(rows)):
                if some != SOME[1] or place != 1:
                    self.refuse_or_read("\n".join(rows[:place] + rows[place + 1:]))
                self.refuse("\n".join(rows[:place] + [rows[place]] + rows[place:]))
            for place in range(len(rows) - 1):
                self.refuse("\n".join(rows[:place] + [rows[place + 1], rows[place]] + rows[place + 2:]))
        for some in SOME[4:7]:
            rows = paper(some).split("\n")
            for place in range(len(rows)):
                self.refuse("\n".join(rows[:place] + rows[place + 1:]))

    def test_a_column_left_out_doubled_or_moved(self):
        for some in SOME[3:5]:
            table = [row.split() for row in paper(some).split("\n")]
            for place in range(len(table[0])):
                self.refuse(self.written([row[:place] + row[place + 1:] for row in table]))
                self.refuse(self.written([row[:place] + [row[place]] + row[place:] for row in table]))
            for place in range(len(table[0]) - 1):
                self.refuse(self.written([row[:place] + [row[place + 1], row[place]] + row[place + 2:] for row in table]))

    def written(self, table):
        widths = [max(len(row[place]) for row in table) for place in range(len(table[0]))]
        return "\n".join("  ".join([row[0].ljust(widths[0])] + [cell.rjust(width) for cell, width in zip(row[1:], widths[1:])])
                         for row in table)

    def test_the_form_itself_is_read(self):
        table = [["month", "base", "a", "b", "net"], ["2031-04", "1.00", "0.25", "-", "0.75"], ["2031-05", "1.00", "-", "0.50", "0.50"],
                 ["sums", "2.00", "0.25", "0.50", "1.25"]]
        self.assertEqual(read_paper(self.written(table)), [(APRIL, 100, (("a", 25),), 75), (APRIL + 1, 100, (("b", 50),), 50)])
        for row, place, cell in (
            (0, 0, "mount"), (0, 1, "bass"), (0, 4, "nett"), (0, 2, "b"), (0, 2, "c"), (0, 2, "A"), (0, 2, "a1"), (0, 2, "abcdefghi"),
            (0, 2, "-"), (0, 2, "0.00"), (0, 3, "base"), (0, 3, "net"), (0, 3, "month"), (0, 3, "sums"), (0, 3, "a"),
            (1, 0, "2031-4"), (1, 0, "2031-13"), (1, 0, "2031-05"), (1, 0, "2031-06"), (1, 0, "sums"), (1, 0, "04-2031"), (2, 0, "2031-04"),
            (2, 0, "2031-03"), (1, 1, "-"), (1, 1, "2.00"), (1, 1, "1.0"), (1, 1, "01.00"), (1, 2, "-"), (1, 2, "0.26"), (1, 2, "0"),
            (2, 3, "-"), (1, 4, "0.74"), (1, 4, "-"), (3, 0, "sum"), (3, 0, "2031-06"), (3, 0, "Sums"), (3, 1, "2.01"),
            (3, 1, "-"), (3, 2, "0.26"), (3, 2, "-"), (3, 3, "0.00"), (3, 4, "1.26"), (3, 4, "-"),
        ):
            other = [list(cells) for cells in table]
            other[row][place] = cell
            with self.subTest(row=row, place=place, cell=cell):
                self.refuse(self.written(other))

    def test_a_net_that_is_wrong_with_its_sum(self):
        table = [["month", "base", "net"], ["2031-04", "1.00", "1.01"], ["sums", "1.00", "1.01"]]
        self.refuse(self.written(table))
        table = [["month", "base", "a", "net"], ["2031-04", "1.00", "0.25", "1.00"], ["sums", "1.00", "0.25", "1.00"]]
        self.refuse(self.written(table))

    def test_a_due_that_nobody_has(self):
        table = [["month", "base", "a", "net"], ["2031-04", "1.00", "-", "1.00"], ["sums", "1.00", "-", "1.00"]]
        self.refuse(self.written(table))
        table[2][2] = "0.00"
        self.refuse(self.written(table))
        self.refuse(self.written([["month", "base", "a", "net"], ["sums", "0.00", "0.00", "0.00"]]))

    def test_names_that_no_rule_has(self):
        for name in ("base", "net", "month", "sums", "A", "a1", "abcdefghi", "1"):
            table = [["month", "base", name, "net"], ["2031-04", "1.00", "0.25", "0.75"], ["sums", "1.00", "0.25", "0.75"]]
            self.refuse(self.written(table))

    def test_short_texts(self):
        for text in ("", " ", "\n", "month", "month  base   net", "sums   0.00  0.00", "month  base  net\nsums   0.00  0.00",
                     "month   net\nsums   0.00", "base   net\n0.00  0.00", "a1 out", "2031-04"):
            self.refuse(text)

    def test_long_texts(self):
        self.refuse("1" * 5000)
        self.refuse("month  base   net\nsums   " + "1" * 5000 + "  0.00")
        self.refuse("month  base   net\n2031-04  " + "1" * 5000 + ".00  0.00\nsums  0.00  0.00")
        self.refuse("month  base  " + "a  " * 5000 + "net\nsums  0.00  0.00")

    def test_what_is_no_text(self):
        for thing in no_texts() + [[paper([])], paper([]).split("\n"), paper([]).encode(), SOME[4]]:
            with self.assertRaises(BadText):
                read_paper(thing)


if __name__ == "__main__":
    unittest.main()
