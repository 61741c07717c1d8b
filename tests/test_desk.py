import random
import unittest

from tests.anything import anything
from tests.spoken import APART, is_so, some_sentences, some_word, words_up_to
from tests.tried import row_of_tries, some_step
from wordrules.desk import Desk
from wordrules.errors import (
    NoBack, NoFit, NoLine, NoName, NoNumber, NoText, NoTongue, NoWord, TooMany, TooMuch, WordError,
)
from wordrules.plantexts import show_plan
from wordrules.sentences import weight
from wordrules.texts import show_rule

# One right line of each form, for a desk that has a and b.
LINES = (
    "signs c ab 01", "tell a apart", "step a 1 a", "back a", "drop a", "names", "rule a", "plan a", "keeps a ab",
    "count a 2", "at a 3", "number a ab", "first a", "span a", "alike a b", "within a b", "place a ab", "try a 0",
    "found a 1 2",
)
ASKING = ("count a 2", "at a 3", "number a ab", "first a", "span a", "alike a b", "alike b a", "alike a a",
          "within a b", "within b a", "within a a", "found a 1 2")


def letters(number):
    return "n" + "abcdefghijklmnopqrstuvwxyz"[number]


class Desks(unittest.TestCase):
    def refused(self, kind, desk, line):
        before = self.seen(desk)
        for caught_as in (kind, WordError, ValueError):
            with self.assertRaises(caught_as, msg=line) as caught:
                desk.say(line)
            self.assertIs(type(caught.exception), kind, line)
        self.assertEqual(self.seen(desk), before)

    def seen(self, desk):
        names = desk.say("names").split(" ") if desk.say("names") else []
        return {name: (desk.say("rule " + name), desk.say("plan " + name)) for name in names}

    def desk(self, *lines):
        desk = Desk()
        for line in lines:
            self.assertEqual(desk.say(line), "ok", line)
        return desk

    def two(self):
        return self.desk("signs a ab 01", "tell a long 1 3", "step a 2 a b 2 a 0", "step a 1 a", "signs b ab 01",
                         "tell b least 0 1")

    def heavy(self):
        """A rule of a weight of 771, with a plan."""
        return self.desk("signs a ab 01", "tell a often ab01 3", "tell a long 0 1", "step a 2 a b", "signs b ab 01")

    def says(self, desk, line, answer):
        told = desk.say(line)
        self.assertEqual(told, answer, line)
        self.assertIs(type(told), str)


class LinesTest(Desks):
    def test_each_line(self):
        for line in LINES:
            self.assertIs(type(self.two().say(line)), str)

    def test_of_anything(self):
        desk = self.two()
        for thing in anything() + [["names"], ("names",), b"names", ["rule", "a"], 5]:
            self.refused(NoLine, desk, thing)

    def test_first_words(self):
        desk = self.two()
        for line in ("", " ", "\n", "a", "Names", "NAMES", "name", "names\n", "sign a ab", "help", "rules a",
                     "rule\na", "rule\ta"):
            self.refused(NoLine, desk, line)

    def test_a_word_fewer(self):
        for line in LINES:
            if line.split(" ")[0] not in ("signs", "step"):
                self.refused(NoLine, self.two(), line.rpartition(" ")[0])
        for line in ("signs c", "signs", "tell a", "tell", "step a", "step", "found a 1", "found a", "found",
                     "alike a", "keeps a"):
            self.refused(NoLine, self.two(), line)

    def test_a_word_more(self):
        for line in LINES:
            if line.split(" ")[0] not in ("signs", "tell", "step"):
                for more in ("a", "1", "names", ""):
                    self.refused(NoLine, self.two(), line + " " + more)

    def test_a_blank_ahead(self):
        for line in LINES:
            self.refused(NoLine, self.two(), " " + line)

    def test_two_blanks(self):
        # A word without signs is a WORD, but no name and no number.
        for line in LINES:
            words = line.split(" ")
            for place in range(1, len(words)):
                doubled = " ".join(words[:place]) + "  " + " ".join(words[place:])
                kind = {"signs": NoTongue, "tell": NoText, "step": NoText}.get(words[0], NoLine)
                self.refused(kind if place > 1 else NoLine, self.two(), doubled)

    def test_a_word_without_signs(self):
        desk = self.two()
        self.says(desk, "keeps a ", "no")
        self.says(desk, "place a ", "none")
        self.refused(NoFit, desk, "number a ")
        self.refused(NoText, desk, "tell a ")
        self.refused(NoText, desk, "tell a  ")
        self.refused(NoText, desk, "step a ")
        self.refused(NoTongue, desk, "signs a ")
        self.refused(NoTongue, desk, "signs a  ")
        self.refused(NoTongue, desk, "signs a ab  01")
        self.refused(NoTongue, desk, "signs a ab ")
        for line in ("keeps  a", "rule ", "rule  ", "count a ", "try a ", "at a ", "found a  1", "found a 1 ", "drop ",
                     "alike a ",
                     "alike  a", "within  ", "signs  ab", "tell  apart", "step  1 a", "back ", "names "):
            self.refused(NoLine, desk, line)
        self.says(self.desk("signs a ab"), "number a ", "0")
        self.says(self.desk("signs a ab"), "keeps a ", "yes")

    def test_names(self):
        desk = Desk()
        for name in ("a", "z", "abcdefgh", "zzzzzzzz", "names", "rule"):
            self.says(desk, f"signs {name} ab", "ok")
            self.says(desk, f"rule {name}", "signs ab")
        for name in ("", "abcdefghi", "zzzzzzzzz", "A", "aB", "a1", "1", "a-", "a_", "\u00e9", "a\n", "a\t", "\u00df",
                     "a.b"):
            for line in (f"signs {name} ab", f"tell {name} apart", f"step {name} 1 a", f"back {name}", f"drop {name}",
                         f"rule {name}",
                         f"plan {name}", f"keeps {name} a", f"count {name} 1", f"at {name} 1", f"number {name} a",
                         f"first {name}", f"span {name}", f"alike {name} a", f"alike a {name}", f"within {name} a",
                         f"within a {name}", f"place {name} a", f"try {name} 0", f"found {name} 0 0"):
                self.refused(NoLine, desk, line)

    def test_every_sign_of_names_and_numbers(self):
        desk = self.two()
        for code in range(33, 127):
            sign = chr(code)
            for name in ("x" + sign, sign + "x"):
                self.refused(NoName if sign.islower() else NoLine, desk, f"rule {name}")
            for number in ("9" + sign, sign + "9"):
                self.refused(NoNumber if sign in "123456789" or number == "90" else NoLine, desk, f"try a {number}")

    def test_numbers(self):
        desk = self.two()
        for wrong in ("", "00", "01", "-1", "+1", "1.0", "a", "1a", "0x1", "1_0", "\u0661", "\u00b2", "1\n", "1" * 81,
                      "9" * 81,
                      "9" * 1900, "0" * 80, "1" + "0" * 80):
            for line in (f"count a {wrong}", f"at a {wrong}", f"try a {wrong}", f"found a {wrong} 1",
                         f"found a 1 {wrong}"):
                self.refused(NoLine, desk, line)
                # A line that is none goes ahead of a name that isn't there.
                self.refused(NoLine, desk, line.replace(" a ", " x "))
        for right in ("1" * 80, "9" * 80, "1" + "0" * 79):
            for line in (f"count a {right}", f"at a {right}", f"try a {right}", f"found a {right} 1",
                         f"found a 1 {right}"):
                self.refused(NoNumber, desk, line)
                self.refused(NoName, desk, line.replace(" a ", " x "))

    def test_no_name(self):
        desk = self.two()
        for line in LINES:
            if " a" in line and line.split(" ")[1] == "a":
                words = line.split(" ")
                self.refused(NoName, desk, " ".join([words[0], "x"] + words[2:]))
                self.refused(NoName, Desk(), line)
        for head in ("alike", "within"):
            for names in ("x a", "a x", "x y", "x x"):
                self.refused(NoName, desk, f"{head} {names}")
        self.refused(NoLine, desk, "alike x Y")
        self.refused(NoLine, desk, "alike X y")

    def test_no_name_goes_ahead_of_what_is_behind(self):
        desk = self.heavy()
        for line in ("tell x nothing", "step x nothing", "back x", "keeps x %", "number x z", "count x 61",
                     "at x " + "9" * 80,
                     "try x 9", "found x 999 61", "alike a x", "within x a"):
            self.refused(NoName, desk, line)

    def test_two_desks(self):
        one, other = self.two(), Desk()
        self.assertEqual(other.say("names"), "")
        other.say("signs a xyz")
        self.assertEqual(one.say("rule a"), "signs ab 01\nlong 1 3")
        one.say("back a")
        self.refused(NoBack, other, "back a")
        one.say("drop a")
        self.assertEqual(other.say("names"), "a")


class TellingTest(Desks):
    def test_signs(self):
        desk = self.desk("signs a ab 01")
        self.says(desk, "rule a", "signs ab 01")
        self.says(desk, "plan a", "plan")
        self.refused(NoBack, desk, "back a")

    def test_signs_in_the_place_of_what_is_there(self):
        desk = self.two()
        self.says(desk, "signs a xy z", "ok")
        self.says(desk, "rule a", "signs xy z")
        self.says(desk, "plan a", "plan")
        self.refused(NoBack, desk, "back a")
        self.says(desk, "rule b", "signs ab 01\nleast 0 1")
        self.says(desk, "names", "a b")

    def test_no_tongue(self):
        desk = self.two()
        for kinds in ("aa", "a a", "ab bc", "a b c d e", "abcdefg", "abcdef 012345 x", "a%", "a\n", "ab  01", "ab 01 ",
                      " ab"):
            for name in ("a", "c"):
                self.refused(NoTongue, desk, f"signs {name} {kinds}")
        for kinds in ("a", "a b c d", "abcdef 012345", "! ~ -"):
            self.says(desk, f"signs c {kinds}", "ok")
            self.says(desk, "rule c", f"signs {kinds}")

    def test_twenty_names_and_one_more(self):
        desk = self.desk(*[f"signs {letters(number)} ab" for number in range(20)])
        self.refused(TooMany, desk, "signs x ab")
        self.refused(NoTongue, desk, "signs x aa")
        self.refused(NoTongue, desk, "signs na aa")
        for number in range(20):
            self.says(desk, f"signs {letters(number)} xy", "ok")
        self.says(desk, "names", " ".join(letters(number) for number in range(20)))
        self.says(desk, "drop na", "ok")
        self.says(desk, "signs x ab", "ok")
        self.refused(TooMany, desk, "signs na ab")

    def test_tell(self):
        desk = self.desk("signs a ab 01")
        lines = ["signs ab 01"]
        for told in ("long 2 -", "not both begins a apart", "often 01 2"):
            self.says(desk, "tell a " + told, "ok")
            lines.append(told)
            self.says(desk, "rule a", "\n".join(lines))
        for told in ("", "nothing", "long 2", "long 2 - -", "long 02 -", "begins c", "apart ", " apart", "apart\n",
                     "apart\napart",
                     "not not not not apart", "not " * 490 + "apart", "-"):
            self.refused(NoText, desk, "tell a " + told)

    def test_eight_sentences_and_one_more(self):
        desk = self.desk("signs a ab 01", *["tell a least 0 0"] * 8)
        self.refused(TooMany, desk, "tell a least 0 0")
        self.refused(TooMany, desk, "tell a apart")
        self.refused(NoText, desk, "tell a least 0 10")
        self.says(desk, "back a", "ok")
        self.says(desk, "tell a apart", "ok")
        self.says(desk, "step a 1 a", "ok")

    def test_heavy_rules_may_be_told(self):
        desk = self.desk("signs a ab 01", *["tell a often ab01 3"] * 8)
        self.says(desk, "keeps a aab", "yes")
        self.says(desk, "keeps a aaaa", "no")

    def test_step(self):
        desk = self.desk("signs a ab 01")
        lines = ["plan"]
        for told in ("2 ab b 1 0", "0", "1 a 1 a 1 a 1 a 1 a"):
            self.says(desk, "step a " + told, "ok")
            lines.append(told)
            self.says(desk, "plan a", "\n".join(lines))
        desk = self.desk("signs a ab 01")
        for told in ("", "a", "1", "2 a", "1 a b", "1 c", "2 a a", "2 a ab 1 a", "01 a", "1 a ", " 1 a", "1  a",
                     "1 a\n", "1 a\n1 b",
                     "0 0 0 0 0 0", "plan", "9" * 80 + " a", "9" * 81, "1 abababa"):
            self.refused(NoText, desk, "step a " + told)

    def test_three_steps_and_one_more(self):
        desk = self.desk("signs a ab 01", *["step a 1 a"] * 3)
        self.refused(TooMany, desk, "step a 1 a")
        self.refused(NoText, desk, "step a 1 c")
        self.says(desk, "back a", "ok")
        self.says(desk, "step a 1 b", "ok")
        self.says(desk, "tell a apart", "ok")

    def test_back(self):
        desk = self.desk("signs a ab 01", "signs b ab 01")
        seen = [self.seen(desk)]
        for line in ("tell a apart", "step a 1 a", "step a 1 b", "tell a long 1 -", "tell a ends a", "step a 1 0"):
            desk.say(line)
            seen.append(self.seen(desk))
        self.says(desk, "tell b apart", "ok")
        self.says(desk, "back b", "ok")
        while len(seen) > 1:
            self.assertEqual(self.seen(desk), seen.pop())
            self.says(desk, "back a", "ok")
        self.assertEqual(self.seen(desk), seen[0])
        self.refused(NoBack, desk, "back a")
        self.refused(NoBack, desk, "back b")

    def test_back_behind_a_refusal(self):
        desk = self.two()
        self.refused(NoText, desk, "step a x")
        self.refused(NoText, desk, "tell a x")
        self.says(desk, "back a", "ok")
        self.says(desk, "plan a", "plan\n2 a b 2 a 0")
        self.says(desk, "rule a", "signs ab 01\nlong 1 3")

    def test_drop(self):
        desk = self.two()
        self.says(desk, "drop a", "ok")
        self.says(desk, "names", "b")
        self.refused(NoName, desk, "drop a")
        self.refused(NoName, desk, "rule a")
        self.says(desk, "signs a ab 01", "ok")
        self.says(desk, "rule a", "signs ab 01")
        self.refused(NoBack, desk, "back a")

    def test_names_sorted(self):
        desk = Desk()
        self.says(desk, "names", "")
        for name in ("b", "ab", "aaaaaaaa", "a", "ba", "zz"):
            desk.say(f"signs {name} ab")
        self.says(desk, "names", "a aaaaaaaa ab b ba zz")


class AskingTest(Desks):
    def test_keeps(self):
        desk = self.desk("signs a ab 01", "tell a least 0 1")
        for word in words_up_to("ab01", 3):
            self.says(desk, "keeps a " + word, "yes" if is_so(("ab", "01"), ("least", 0, 1), word) else "no")
        self.says(desk, "keeps a " + "a" * 60, "yes")
        for word in ("a" * 61, "c", "A", "a\n", "ac", "-"):
            self.refused(NoWord, desk, "keeps a " + word)

    def test_count(self):
        desk = self.desk("signs a ab 01", "tell a apart")
        for n in range(1, 61):
            self.says(desk, f"count a {n}", str(4 * 3 ** (n - 1)))
        self.says(desk, "count a 0", "1")
        for n in (61, 62, 100, 10 ** 79):
            self.refused(NoNumber, desk, f"count a {n}")

    def test_at_and_number(self):
        desk = self.desk("signs a ba 01", "tell a long 1 3", "tell a apart")
        words = [word for word in words_up_to("ba01", 3)[1:] if is_so((), APART, word)]
        for number, word in enumerate(words):
            self.says(desk, f"at a {number}", "word " + word)
            self.says(desk, f"number a {word}", str(number))
        for number in (len(words), len(words) + 1, 10 ** 79):
            self.refused(NoNumber, desk, f"at a {number}")
        for word in ("aa", "", "baba", "a" * 60):
            self.refused(NoFit, desk, "number a " + word)
        for word in ("c", "a" * 61, "a\n", "A"):
            self.refused(NoWord, desk, "number a " + word)
        self.says(self.desk("signs a ab"), "at a 0", "word ")

    def test_first(self):
        desk = self.desk("signs a ba 01")
        self.says(desk, "first a", "word ")
        for told, answer in (("long 2 -", "word bb"), ("least 1 2", "word 00"), ("ends 1", "word 01"),
                             ("begins a", "word a01"),
                             ("without 01", "word a11"), ("without 11", "word a0b1")):
            self.says(desk, "tell a " + told, "ok")
            self.says(desk, "first a", answer)
        self.says(self.desk("signs a ab", "tell a long 4 -", "tell a long 0 3"), "first a", "none")

    def test_span(self):
        desk = self.desk("signs a ab 01")
        self.says(desk, "span a", "endless")
        self.says(desk, "tell a often ab01 3", "ok")
        self.says(desk, "span a", "last 12")
        desk = self.desk("signs a ab 01", "tell a long 0 0")
        self.says(desk, "span a", "last 0")
        self.says(desk, "tell a long 1 -", "ok")
        self.says(desk, "span a", "none")
        self.says(self.desk("signs a ab", "tell a long 2 30", "tell a not without b"), "span a", "last 30")

    def test_alike_and_within(self):
        desk = self.desk("signs a ba 01", "tell a long 1 -", "signs b ba 01", "tell b not long 0 0", "signs c ba 01",
                         "tell c least 1 1",
                         "signs d ba 01")
        for names, answer in (("a b", "alike"), ("b a", "alike"), ("a a", "alike"), ("a c", "unlike b"),
                              ("c a", "unlike b"),
                              ("a d", "unlike "), ("d c", "unlike ")):
            self.says(desk, "alike " + names, answer)
        for names, answer in (("a b", "within"), ("c a", "within"), ("a c", "out b"), ("a d", "within"),
                              ("d a", "out "), ("c d", "within"),
                              ("d c", "out ")):
            self.says(desk, "within " + names, answer)

    def test_tongues_that_are_not_the_same_tuple(self):
        desk = self.desk("signs a ab 01", "signs b ba 01", "signs c ab01", "signs d a b 01", "signs e ab 01",
                         "signs f 01 ab")
        for head in ("alike", "within"):
            for other in "bcdf":
                self.refused(NoTongue, desk, f"{head} a {other}")
                self.refused(NoTongue, desk, f"{head} {other} a")
        self.says(desk, "alike a e", "alike")

    def test_machines_too_great_to_compare(self):
        # A hundred stands and ninety: 101 times 101 is above 10,000, 101 times 91 isn't.
        desk = self.desk("signs a ab 01", "tell a least 0 9", "tell a least 1 9", "signs b ab 01", "tell b least 0 9",
                         "tell b least 1 8")
        self.refused(TooMuch, desk, "alike a a")
        self.refused(TooMuch, desk, "within a a")
        self.says(desk, "alike a b", "unlike " + "a" * 9 + "0" * 8)
        self.says(desk, "within a b", "within")
        self.says(desk, "within b a", "out " + "a" * 9 + "0" * 8)

    def test_place_and_try(self):
        desk = self.two()
        row = ["aa", "a0", "ba", "b0", "a"]
        for number, word in enumerate(row):
            self.says(desk, f"try a {number}", "word " + word)
            self.says(desk, f"place a {word}", str(number))
        for number in (5, 6, 10 ** 79):
            self.refused(NoNumber, desk, f"try a {number}")
        for word in ("b", "", "c", "A", "~" * 1000, "a" * 61, "aaa", "a\n"):
            self.says(desk, "place a " + word, "none")
        self.refused(NoNumber, desk, "try b 0")
        self.says(desk, "place b a", "none")

    def test_found(self):
        desk = self.two()
        # Of one, two and three signs 84 words keep the rule; the tries are aa, a0, ba, b0, a.
        for n, most, answer in ((0, 3, "0/1"), (1, 3, "1/84"), (2, 3, "1/42"), (4, 2, "1/5"), (4, 1, "0/1"),
                                (5, 1, "1/4"), (5, 0, "0/1"),
                                (5, 60, "5/84"), (5, 2, "1/4")):
            self.says(desk, f"found a {n} {most}", answer)
        self.refused(NoNumber, desk, "found a 6 2")
        self.refused(NoNumber, desk, "found a 5 61")
        self.refused(NoNumber, desk, "found a 6 61")
        self.refused(NoNumber, desk, "found b 1 1")
        self.says(desk, "found b 0 60", "0/1")

    def test_great_plans(self):
        part = "12 " + " ".join("abcdef012345")
        desk = self.desk("signs a abcdef 012345", *["step a " + " ".join([part] * 5)] * 3)
        self.says(desk, "try a 248831", "word 55555")
        self.says(desk, "place a 55555", "248831")
        self.says(desk, "found a 248832 5", f"{12 ** 5}/{sum(12 ** length for length in range(6))}")
        self.refused(NoNumber, desk, "found a 248833 5")
        self.refused(NoNumber, desk, "try a 248832")

    def test_too_much(self):
        desk = self.heavy()
        for line in ASKING:
            self.refused(TooMuch, desk, line)
        for line in ("rule a", "plan a", "keeps a ab", "place a ab", "try a 0", "back a", "back a"):
            self.assertIs(type(desk.say(line)), str)
        self.says(desk, "rule a", "signs ab 01\noften ab01 3")
        self.says(desk, "first a", "word ")

    def test_a_weight_of_600(self):
        desk = self.desk("signs a ab 01", "tell a long 0 28", "tell a least 0 9", "tell a least 1 1", "step a 2 a b",
                         "signs b ab 01")
        self.says(desk, "count a 10", str(10 * 2 ** 10))
        self.says(desk, "first a", "word aaaaaaaaa0")
        self.says(desk, "at a 0", "word aaaaaaaaa0")
        self.says(desk, "number a aaaaaaaaa0", "0")
        self.says(desk, "span a", "last 28")
        self.says(desk, "within a b", "within")
        self.says(desk, "alike a b", "unlike ")
        self.says(desk, "found a 2 12", "0/1")
        desk.say("tell a least 0 1")
        for line in ASKING:
            self.refused(TooMuch, desk, line)

    def test_which_refusal_goes_first(self):
        desk = self.heavy()
        desk.say("signs c ba 01")
        for line in ("count a 61", "at a " + "9" * 80, "number a z", "number a " + "a" * 61, "number a aa",
                     "found a 3 2", "found a 1 61",
                     "found a 3 61"):
            self.refused(TooMuch, desk, line)
        for line in ("alike a c", "alike c a", "within a c", "within c a"):
            self.refused(NoTongue, desk, line)
        self.refused(NoWord, desk, "keeps a z")
        self.refused(NoNumber, desk, "try a 3")
        self.says(desk, "place a z", "none")


class ByHand:
    """A desk as the document tells it, for lines that are right; what is asked is gone through one by one."""

    def __init__(self):
        self.kept = {}

    def say(self, head, name, told):
        if head == "signs":
            self.kept[name] = (told, (), (), ())
            return "ok"
        tongue, sentences, steps, before = self.kept[name]
        if head == "drop":
            del self.kept[name]
        if head == "tell":
            self.kept[name] = (tongue, sentences + (told,), steps, before + ((sentences, steps),))
        if head == "step":
            self.kept[name] = (tongue, sentences, steps + (told,), before + ((sentences, steps),))
        if head == "back":
            self.kept[name] = (tongue,) + before[-1] + (before[:-1],)
        if head in ("drop", "tell", "step", "back"):
            return "ok"
        return self.asked(head, tongue, sentences, steps, told)

    def asked(self, head, tongue, sentences, steps, told):
        words = [word for word in words_up_to("".join(tongue), 4) if all(is_so(tongue, one, word) for one in sentences)]
        row = row_of_tries(steps)
        if head == "keeps":
            return "yes" if all(is_so(tongue, one, told) for one in sentences) else "no"
        if head == "count":
            return str(sum(len(word) == told for word in words))
        if head == "number":
            return str(words.index(told)) if told in words else NoFit
        if head == "place":
            return str(row.index(told)) if told in row else "none"
        if head == "try":
            return "word " + row[told] if told < len(row) else NoNumber
        return show_rule((tongue, sentences)) if head == "rule" else show_plan(steps)


class LineByLineTest(Desks):
    def test_line_by_line(self):
        for seed in range(12):
            draw = random.Random(210 + seed)
            tongue = draw.choice((("ab",), ("a", "b0"), ("ba", "01")))
            sentences = [one for one in some_sentences(seed, 60, tongue, 2) if weight(tongue, one) <= 8]
            desk, by_hand = Desk(), ByHand()
            for _ in range(120):
                self.one_line(draw, desk, by_hand, tongue, sentences)
                self.assertEqual(desk.say("names"), " ".join(sorted(by_hand.kept)))

    def one_line(self, draw, desk, by_hand, tongue, sentences):
        signs = "".join(tongue)
        name = draw.choice(("x", "y", "zz"))
        head = draw.choice(("signs", "tell", "tell", "step", "step", "back", "drop", "keeps", "count", "number",
                            "place", "try",
                            "rule", "plan") if draw.random() < 0.6 else ("tell", "step", "keeps", "count", "number",
                                                                         "place", "try"))
        told = {"signs": tongue, "tell": draw.choice(sentences), "step": some_step(draw, signs, 3),
                "count": draw.randint(0, 4),
                "try": draw.randint(0, 9)}.get(head, some_word(draw, signs, 0, 4))
        line = f"{head} {name}"
        if head == "signs":
            line += " " + " ".join(told)
        elif head == "tell":
            line += " " + show_rule((tongue, (told,))).split("\n")[1]
        elif head == "step":
            line += " " + show_plan((told,)).split("\n")[1]
        elif head not in ("back", "drop", "rule", "plan"):
            line += f" {told}"
        if head != "signs" and name not in by_hand.kept:
            self.refused(NoName, desk, line)
        elif head == "back" and not by_hand.kept[name][3]:
            self.refused(NoBack, desk, line)
        elif head == "tell" and len(by_hand.kept[name][1]) == 3:
            self.says(desk, "rule " + name, by_hand.say("rule", name, None))
        elif head == "step" and len(by_hand.kept[name][2]) == 3:
            self.refused(TooMany, desk, line)
        else:
            answer = by_hand.say(head, name, told)
            self.says(desk, line, answer) if isinstance(answer, str) else self.refused(answer, desk, line)


if __name__ == "__main__":
    unittest.main()
