import random
import unittest

from tests.anything import anything
from tests.spoken import APART, some_sentences
from wordrules.errors import NoText, WordError
from wordrules.rules import is_rule
from wordrules.texts import read_rule, show_rule

TONGUE = ("ab", "01")
WRITTEN = (
    (("long", 2, None), "long 2 -"), (("long", 0, 30), "long 0 30"), (("least", 1, 9), "least 1 9"),
    (("often", "b0", 3), "often b0 3"), (APART, "apart"), (("without", "ab01ab"), "without ab01ab"),
    (("begins", "0"), "begins 0"), (("ends", "10"), "ends 10"), (("not", APART), "not apart"),
    (("both", ("begins", "a"), ("long", 1, None)), "both begins a long 1 -"),
    (("either", ("not", ("ends", "1")), ("least", 0, 0)), "either not ends 1 least 0 0"),
    (("not", ("both", ("either", APART, ("begins", "a")), ("often", "a", 0))),
     "not both either apart begins a often a 0"),
)


class Texts(unittest.TestCase):
    def both_ways(self, rule, text):
        self.assertEqual(show_rule(rule), text)
        self.assertEqual(read_rule(text), rule)
        self.assertIs(type(read_rule(text)), tuple)

    def refused(self, text):
        for kind in (NoText, WordError, ValueError):
            with self.assertRaises(kind, msg=text) as caught:
                read_rule(text)
            self.assertIs(type(caught.exception), NoText)


class WrittenTest(Texts):
    def test_told_as_they_are(self):
        self.both_ways((TONGUE, (("long", 2, None), ("not", ("both", ("begins", "a"), APART)))),
                       "signs ab 01\nlong 2 -\nnot both begins a apart")

    def test_each_sentence(self):
        for sentence, text in WRITTEN:
            self.both_ways((TONGUE, (sentence,)), "signs ab 01\n" + text)
            self.both_ways((TONGUE, (sentence, APART, sentence)), f"signs ab 01\n{text}\napart\n{text}")

    def test_without_sentences(self):
        for tongue, text in ((("a",), "signs a"), (TONGUE, "signs ab 01"), (("a", "b", "c", "d"), "signs a b c d"),
                             (("abcdef", "012345"), "signs abcdef 012345"), (("!", "~&", "-"), "signs ! ~& -")):
            self.both_ways((tongue, ()), text)

    def test_eight_sentences(self):
        self.both_ways((TONGUE, (APART,) * 8), "signs ab 01" + "\napart" * 8)
        self.refused("signs ab 01" + "\napart" * 9)
        self.refused("signs ab 01" + "\napart" * 300)

    def test_words_like_those_of_sentences(self):
        # The words of a sentence may be made of the tongue's signs, and figures and dashes too.
        tongue = ("apnotr", "-01")
        for sentence, text in ((("without", "apart"), "without apart"), (("begins", "not"), "begins not"),
                               (("ends", "-"), "ends -"), (("without", "01"), "without 01"),
                               (("often", "0-", 1), "often 0- 1"),
                               (("both", ("begins", "not"), ("ends", "apart")), "both begins not ends apart")):
            self.both_ways((tongue, (sentence,)), "signs apnotr -01\n" + text)
        self.refused("signs apnotr -01\nwithout not apart")

    def test_four_deep_and_five(self):
        deep = ("not", ("not", ("not", APART)))
        self.both_ways((TONGUE, (deep,)), "signs ab 01\nnot not not apart")
        self.refused("signs ab 01\nnot not not not apart")
        self.refused("signs ab 01\n" + "not " * 490 + "apart")
        self.refused("signs ab 01\n" + "both " * 390 + "apart")
        self.refused("signs ab 01\n" + "either " * 280)

    def test_nine_sentences_in_one_and_ten(self):
        nine = ("both", ("both", ("both", APART, APART), ("both", APART, APART)), APART)
        self.both_ways((TONGUE, (nine,)), "signs ab 01\nboth both both apart apart both apart apart apart")
        self.refused("signs ab 01\nboth both both apart apart both apart apart not apart")
        self.refused("signs ab 01\nboth both both apart apart both apart apart both apart apart")

    def test_each_the_others_way_back(self):
        draw = random.Random(191)
        for tongue in (("a",), TONGUE, ("abc", "0", "-!"), ("abcdef", "012345")):
            sentences = some_sentences(192, 150, tongue)
            for _ in range(150):
                rule = (tongue, tuple(draw.sample(sentences, draw.randint(0, 8))))
                text = show_rule(rule)
                self.assertEqual(read_rule(text), rule)
                self.assertEqual(text.count("\n"), len(rule[1]))

    def test_told_as_rules(self):
        told = read_rule("signs ab 01\nlong 2 -\nnot both begins a apart")
        self.assertIs(is_rule(told), True)
        self.assertIs(type(told[1]), tuple)
        self.assertEqual(read_rule("signs ab 01\nlong 2 -\nnot both begins a apart"), told)


class NoTextTest(Texts):
    def test_of_anything(self):
        for thing in anything() + [(TONGUE, ()), ["signs ab 01"], ("signs ab 01",), b"signs ab 01", 5]:
            self.refused(thing)

    def test_blanks(self):
        for text in (" signs ab 01", "signs ab 01 ", "signs  ab 01", "signs ab  01", "signs ab 01\n apart",
                     "signs ab 01\napart ", "signs ab 01\nlong  2 -", "signs ab 01\nlong 2  -",
                     "signs ab 01\nlong 2 - ",
                     "signs ab 01\nnot  apart", "signs ab 01\t", "signs\tab 01", "signs ab 01\nlong\t2 -",
                     "signs ab 01 \napart"):
            self.refused(text)
        # In what is written right each blank is doubled, and one is put ahead of each line and behind it.
        for sentence, told in WRITTEN:
            text = "signs ab 01\n" + told + "\napart"
            for place in range(len(text) + 1):
                if place == 0 or text[place - 1] == "\n" or text[place:place + 1] in (" ", "\n", ""):
                    self.refused(text[:place] + " " + text[place:])

    def test_line_feeds(self):
        for text in ("signs ab 01\n", "\nsigns ab 01", "signs ab 01\n\napart", "signs ab 01\napart\n", "\n", "", "\n\n",
                     "signs\nab 01", "signs ab\n01", "signs ab 01\nlong\n2 -", "signs ab 01\rapart",
                     "signs ab 01\r\napart",
                     "signs ab 01\n ", "signs ab 01 apart", "signs ab 01\napart apart", "signs ab 01\nnot\napart"):
            self.refused(text)

    def test_no_tongue(self):
        for text in ("signs", "signs ", "sign ab 01", "Signs ab 01", "ab 01", "apart", "signs aa", "signs ab ba",
                     "signs a b c d e",
                     "signs abcdefg", "signs abcdef 012345 x", "signs abcdef 012345 x y", "signs a%", "signs  ",
                     "signs a  b"):
            self.refused(text)
            self.refused(text + "\napart")

    def test_figures(self):
        for wrong in ("00", "01", "02", "-1", "+1", "1.", "1.0", "a", "", "-", "--", "0x1", "1_0", "1e1", "\u0661",
                      "\u00b2", "None"):
            self.refused(f"signs ab 01\nleast 0 {wrong}")
            self.refused(f"signs ab 01\nleast {wrong} 0")
            self.refused(f"signs ab 01\nlong {wrong} -")
            self.refused(f"signs ab 01\noften a {wrong}")
            if wrong != "-":
                self.refused(f"signs ab 01\nlong 0 {wrong}")
        for code in range(32, 127):
            if chr(code) not in "0123456789":
                for wrong in (chr(code), "1" + chr(code), chr(code) + "1"):
                    self.refused(f"signs ab 01\nleast 0 {wrong}")
        for great in ("31", "100", "9" * 80, "9" * 81, "9" * 1900, "1" + "0" * 5000):
            self.refused(f"signs ab 01\nlong 0 {great}")
            self.refused(f"signs ab 01\nlong {great} -")
            self.refused(f"signs ab 01\nlong {great} {great}")

    def test_fields_out_of_bounds(self):
        for told in ("long 31 -", "long 0 31", "long 2 1", "least 2 0", "least 0 10", "often a 4", "often aa 1",
                     "often ab01a 1",
                     "often c 1", "without c", "without abababa", "begins", "ends  ", "without ", "begins ac",
                     "long 1 --"):
            self.refused("signs ab 01\n" + told)

    def test_a_field_fewer_or_more(self):
        for sentence, told in WRITTEN:
            words = told.split(" ")
            self.refused("signs ab 01\n" + " ".join(words[:-1]))
            for more in ("a", "0", "-", "apart", "not", "1 1"):
                self.refused(f"signs ab 01\n{told} {more}")
            for more in ("a", "0", "-", "apart", "both", "signs"):
                self.refused(f"signs ab 01\n{more} {told}")
            if not isinstance(sentence[-1], tuple):
                for place in range(1, len(words)):
                    self.refused("signs ab 01\n" + " ".join(words[:place] + words[place + 1:]))
                    self.refused("signs ab 01\n" + " ".join(words[:place] + ["1"] + words[place:]))

    def test_other_words(self):
        for told in ("Apart", "nothing", "apart,", "long2 -", "long(2,-)", "or apart apart", "and apart apart",
                     "signs ab 01", "plan", "",
                     "not", "both apart", "either apart", "both", "not not", "both apart apart apart",
                     "not apart apart"):
            self.refused("signs ab 01\n" + told)

    def test_a_line_that_is_wrong_among_right_ones(self):
        for place in range(8):
            lines = ["apart"] * 8
            lines[place] = "aparte"
            self.refused("\n".join(["signs ab 01"] + lines))

    def test_what_is_read_is_written_so(self):
        # Whatever one sign is changed to: what is still read as a rule is written as the same text.
        draw = random.Random(193)
        signs = " ab01-2\nlongtseuirwh"
        read = 0
        for sentence, told in WRITTEN:
            text = "signs ab 01\n" + told + "\napart"
            for _ in range(150):
                place = draw.randrange(len(text))
                changed = text[:place] + draw.choice(signs) + text[place + draw.randint(0, 1):]
                try:
                    rule = read_rule(changed)
                except NoText:
                    continue
                read += 1
                self.assertEqual(show_rule(rule), changed)
                self.assertIs(is_rule(rule), True)
        self.assertGreater(read, 30)


if __name__ == "__main__":
    unittest.main()
