import unittest

from coinroll.bands import Bands
from coinroll.errors import BadRule
from coinroll.ontop import OnTop
from coinroll.reading import rule_of
from coinroll.rules import Capped, Flat, Least, Rule, Share

from helper import no_texts

MOST = 10 ** 12
TWELVE = ",".join(f"{place * 5}:{place * 10}" for place in range(12))

GOOD = [
    ("flat fee 500", Flat, "fee"), ("flat a 0", Flat, "a"), ("flat abcdefgh 1000000000000", Flat, "abcdefgh"),
    ("share tax 1250 near", Share, "tax"), ("share a 0 down", Share, "a"), ("share a 20000 up", Share, "a"),
    ("share flat 1 even", Share, "flat"), ("share of 1 even", Share, "of"), ("share down 1 down", Share, "down"),
    ("capped old 930 600000 even", Capped, "old"), ("capped old 20000 1000000000000 up", Capped, "old"),
    ("capped a 0 0 near", Capped, "a"), ("least club 100 700 down", Least, "club"),
    ("least club 20000 1000000000000 down", Least, "club"), ("least a 0 0 down", Least, "a"),
    ("bands inc 0:0 near", Bands, "inc"), ("bands inc 0:0,1000:1500 near", Bands, "inc"),
    ("bands inc 0:20000,1000000000000:1 even", Bands, "inc"), ("bands inc " + TWELVE + " up", Bands, "inc"),
    ("ontop sol 550 down of share tax 1250 near", OnTop, "sol"), ("ontop a 0 up of flat a 7", OnTop, "a"),
    ("ontop a 20000 even of bands b 0:5000,3:1 up", OnTop, "a"), ("ontop of 1 up of flat of 7", OnTop, "of"),
    ("ontop a 1 up of capped b 5 90 down", OnTop, "a"), ("ontop a 1 up of least b 5 90 down", OnTop, "a"),
    ("ontop a 9000 up of ontop b 3333 near of least b 5 90 down", OnTop, "a"),
    ("ontop a 9000 up of ontop b 20000 near of ontop ontop 5000 even of share c 15000 down", OnTop, "a"),
]

YEARS = [[], [0], [1], [5, 0, 7], [1] * 12, [120000] * 12, [3, 99999, 0, MOST, 1]]


class TestGood(unittest.TestCase):
    def test_the_row_is_read_back(self):
        for text, kind, name in GOOD:
            with self.subTest(text):
                rule = rule_of(text)
                self.assertIsInstance(rule, kind)
                self.assertIsInstance(rule, Rule)
                self.assertEqual((rule.row(), rule.name), (text, name))

    def test_rules_that_are_made_are_read_back_with_the_same_dues(self):
        made = [Flat("a", 0), Flat("a", MOST), Flat("fee", 12)]
        for way in ("down", "up", "near", "even"):
            for parts in (0, 1, 10, 5000, 20000):
                plain = [Share("a", parts, way), Capped("b", parts, 100, way), Least("c", parts, 10, way),
                         Bands("d", ((0, parts), (5, 20000 - parts), (MOST, 1)), way)]
                made += plain + [OnTop("e", parts, way, rule) for rule in plain]
                made += [OnTop("f", 3, "up", OnTop("e", parts, way, rule)) for rule in plain]
                made += [OnTop("g", 4, "up", OnTop("f", 3, "up", OnTop("e", parts, way, rule))) for rule in plain]
        for rule in made:
            read = rule_of(rule.row())
            self.assertEqual((read.name, read.row()), (rule.name, rule.row()))
            for bases in YEARS:
                self.assertEqual(read.until(bases), rule.until(bases), rule.row())
                self.assertEqual(read.of_month(bases), rule.of_month(bases), rule.row())

    def test_each_asker_has_its_own(self):
        one = rule_of("flat fee 500")
        other = rule_of("flat fee 500")
        one.name = "other"
        self.assertEqual(other.row(), "flat fee 500")
        self.assertEqual(rule_of("flat fee 500").name, "fee")


class TestRefused(unittest.TestCase):
    def refuse(self, text):
        with self.subTest(text=text[:80] if isinstance(text, str) else None):
            with self.assertRaises(BadRule):
                rule_of(text)

    def test_blanks(self):
        for text, kind, name in GOOD:
            self.refuse(" " + text)
            self.refuse(text + " ")
            for place in range(len(text)):
                if text[place] == " ":
                    self.refuse(text[:place] + text[place:].replace(" ", "  ", 1))
                    self.refuse(text[:place] + text[place + 1:])
                    for sign in "\t\n_,:;-":
                        self.refuse(text[:place] + sign + text[place + 1:])

    def test_a_word_more_less_or_doubled(self):
        for text, kind, name in GOOD:
            words = text.split(" ")
            for place in range(len(words)):
                self.refuse(" ".join(words[:place] + words[place + 1:]))
                self.refuse(" ".join(words[:place] + [words[place]] + words[place:]))
                self.refuse(" ".join(words[:place] + [""] + words[place + 1:]))
                self.refuse(" ".join(words[:place] + ["7"] + words[place:]))
            self.refuse(text + " up")
            self.refuse(text + " 1")
            self.refuse(text + " of")
            self.refuse(text + " " + text)
            self.refuse(text + " of flat a 1")

    def test_another_word(self):
        for text in ("Flat a 1", "flats a 1", "fla a 1", "none a 1", "rule a 1", "a 1", "1 a flat", "flat 1 a", "share a up 1",
                     "share 1 a up", "flat a up", "flat a b", "share a 1 1", "share a 1 a", "share a 1 Up", "share a 1 UP",
                     "share a 1 upp", "share a 1 half", "capped a 1 up 1", "capped a up 1 1", "least a 1 1 1", "least a b 1 up",
                     "least a 1 b up", "bands a up 0:1", "bands a 1 up", "ontop a 1 up on flat b 1", "ontop a 1 up Of flat b 1",
                     "ontop a 1 up flat b 1", "ontop a 1 up of", "ontop a 1 up of up", "ontop a 1 of up flat b 1",
                     "ontop a 1 up of flat b", "ontop a 1 up", "capped a 1 up", "least a 1 up", "share a 1 1 up", "flat a 1 up",
                     "capped a 0:1 up", "bands a 1 1 up", "ontop a 1 sideways of flat b 1"):
            self.refuse(text)

    def test_numbers(self):
        for number in ("", "00", "01", "007", "-1", "-0", "+1", "1.0", "1.", "1,0", "1_0", "1e3", "0x1", "a", "one", "1a", "1\n"):
            self.refuse(f"flat a {number}")
            self.refuse(f"share a {number} up")
            self.refuse(f"capped a {number} 1 up")
            self.refuse(f"capped a 1 {number} up")
            self.refuse(f"least a {number} 1 up")
            self.refuse(f"least a 1 {number} up")
            self.refuse(f"bands a {number}:1 up")
            self.refuse(f"bands a 0:{number} up")
            self.refuse(f"bands a 0:1,{number}:1 up")
            self.refuse(f"bands a 0:1,5:{number} up")
            self.refuse(f"ontop a {number} up of flat a 1")
            self.refuse(f"ontop a 1 up of flat a {number}")

    def test_numbers_beyond_their_bounds(self):
        for parts in (20001, 30000, 10 ** 12, 10 ** 13):
            self.refuse(f"share a {parts} up")
            self.refuse(f"capped a {parts} 1 up")
            self.refuse(f"least a {parts} 1 up")
            self.refuse(f"bands a 0:{parts} up")
            self.refuse(f"bands a 0:1,5:{parts} up")
            self.refuse(f"ontop a {parts} up of flat a 1")
            self.refuse(f"ontop a 1 up of share a {parts} up")
        for amount in (MOST + 1, 2 * MOST, 10 * MOST, 10 ** 30):
            self.refuse(f"flat a {amount}")
            self.refuse(f"capped a 1 {amount} up")
            self.refuse(f"least a 1 {amount} up")
            self.refuse(f"bands a 0:1,{amount}:1 up")
            self.refuse(f"ontop a 1 up of flat a {amount}")

    def test_bands(self):
        for bands in ("", ",", ":", "0", "0:", ":1", "0:1:1", "0:1,", ",0:1", "0:1,,5:1", "0:1 5:1", "0:1;5:1", "0,1", "1:1",
                      "1:1,2:1", "0:1,0:1", "0:1,5:1,5:1", "0:1,5:1,4:1", "5:1,0:1", "0:1,5", "0:1,5:", "0:1,:5", "0 :1", "0: 1",
                      "(0:1)", "0:1,5:1:2", "0.1", "0-1"):
            self.refuse(f"bands a {bands} up")
        self.refuse("bands a up")
        self.refuse(f"bands a {TWELVE},999:1 up")
        self.refuse(f"bands a {TWELVE}," + ",".join(f"{place}:1" for place in range(999, 9999)) + " up")

    def test_names(self):
        for name in ("base", "net", "month", "sums", "Tax", "TAX", "taX", "tax1", "1", "abcdefghi", "a-b", "a_b", "a.b", "a" * 5000):
            self.refuse(f"flat {name} 1")
            self.refuse(f"share {name} 1 up")
            self.refuse(f"capped {name} 1 1 up")
            self.refuse(f"least {name} 1 1 up")
            self.refuse(f"bands {name} 0:1 up")
            self.refuse(f"ontop {name} 1 up of flat a 1")
            self.refuse(f"ontop a 1 up of flat {name} 1")
            self.refuse(f"ontop a 1 up of ontop {name} 1 up of flat a 1")
            self.refuse(f"ontop a 1 up of ontop a 1 up of ontop a 1 up of bands {name} 0:1 up")

    def test_line_feeds(self):
        for text, kind, name in GOOD:
            self.refuse(text + "\n")
            self.refuse("\n" + text)
            self.refuse(text + "\r")
            self.refuse(text + "\n" + text)

    def test_great_letters(self):
        for text, kind, name in GOOD:
            self.refuse(text.upper())
            self.refuse(text.title())
            for place in range(len(text)):
                if text[place].isalpha():
                    self.refuse(text[:place] + text[place].upper() + text[place + 1:])

    def test_ontops_four_deep_and_deeper(self):
        for count in (4, 5, 10, 100, 1000, 20000):
            self.refuse("ontop a 1 up of " * count + "flat a 1")
        rule_of("ontop a 1 up of " * 3 + "flat a 1")

    def test_short_texts(self):
        for text in ("", " ", "  ", "\n", "flat", "share", "ontop", "bands", "flat ", "flat a", "ontop a", "of", "a", "0"):
            self.refuse(text)

    def test_numbers_of_some_thousand_figures(self):
        for count in (14, 31, 1000, 4300, 4301, 5000, 20000):
            for figures in ("1" * count, "0" * count, "9" * count):
                self.refuse(figures)
                self.refuse(f"flat a {figures}")
                self.refuse(f"flat {figures} 1")
                self.refuse(f"share a {figures} up")
                self.refuse(f"share a 1 {figures}")
                self.refuse(f"capped a {figures} {figures} up")
                self.refuse(f"capped a 1 {figures} up")
                self.refuse(f"least a 1 {figures} up")
                self.refuse(f"bands a 0:{figures} up")
                self.refuse(f"bands a 0:1,{figures}:1 up")
                self.refuse(f"ontop a {figures} up of flat a 1")
                self.refuse(f"ontop a 1 up of flat a {figures}")

    def test_what_is_no_text(self):
        others = [["flat a 1"], ("flat", "a", "1"), ["flat", "a", "1"], b"flat a 1", Flat("a", 1), {"flat a 1": 1}]
        for thing in no_texts() + others:
            self.refuse(thing)


if __name__ == "__main__":
    unittest.main()
