import random
import unittest

from tests.anything import anything
from tests.spoken import words_up_to
from tests.tried import some_plan
from wordrules.errors import NoText, WordError
from wordrules.plans import is_plan
from wordrules.plantexts import read_plan, show_plan

TONGUE = ("ab", "01")
WRITTEN = (
    ((), "plan"),
    (((("ab", "b"), ("0",)),), "plan\n2 ab b 1 0"),
    ((((),),), "plan\n0"),
    ((((), ()), (("a",), (), ("b", "ba"))), "plan\n0 0\n1 a 0 2 b ba"),
    (((("1",), ("2", "10")), (("1", "11", "0"),)), "plan\n1 1 2 2 10\n3 1 11 0"),
    ((((), ("0", "1")), ((), (), (), (), ()), (("a",),) * 5), "plan\n0 2 0 1\n0 0 0 0 0\n1 a 1 a 1 a 1 a 1 a"),
    (((("ab01ab", "b"), ("a", "ab", "aba")),), "plan\n2 ab01ab b 3 a ab aba"),
)


class PlanTexts(unittest.TestCase):
    def both_ways(self, tongue, plan, text):
        self.assertEqual(show_plan(plan), text)
        self.assertEqual(read_plan(tongue, text), plan)

    def refused(self, text, tongue=TONGUE):
        for kind in (NoText, WordError, ValueError):
            with self.assertRaises(kind, msg=text) as caught:
                read_plan(tongue, text)
            self.assertIs(type(caught.exception), NoText)


class WrittenTest(PlanTexts):
    def test_told_as_they_are(self):
        for plan, text in WRITTEN:
            self.both_ways(("ab", "012"), plan, text)
            self.assertIs(type(read_plan(("ab", "012"), text)), tuple)

    def test_words_of_figures(self):
        self.both_ways(TONGUE, ((("0", "1"), ("1",)),), "plan\n2 0 1 1 1")
        self.both_ways(TONGUE, ((("1",), ("0",)), ((), ("1", "0"))), "plan\n1 1 1 0\n0 2 1 0")
        self.both_ways(("012",), ((("2", "0", "1"),),), "plan\n3 2 0 1")

    def test_three_steps_and_four(self):
        self.both_ways(TONGUE, ((("a",),),) * 3, "plan" + "\n1 a" * 3)
        self.refused("plan" + "\n1 a" * 4)
        self.refused("plan" + "\n0" * 500)

    def test_five_parts_and_six(self):
        self.both_ways(TONGUE, (((),) * 5,), "plan\n0 0 0 0 0")
        self.refused("plan\n0 0 0 0 0 0")
        self.refused("plan\n1 a 1 a 1 a 1 a 1 a 1 a")
        self.refused("plan\n" + "0 " * 900 + "0")

    def test_twelve_words_and_thirteen(self):
        words = words_up_to("ab", 4)[15:]
        self.both_ways(TONGUE, ((tuple(words[:12]),),), "plan\n12 " + " ".join(words[:12]))
        self.refused("plan\n13 " + " ".join(words[:13]))

    def test_each_the_others_way_back(self):
        draw = random.Random(201)
        for _ in range(600):
            plan = some_plan(draw, "ab01")
            self.assertEqual(read_plan(TONGUE, show_plan(plan)), plan)
            self.assertEqual(show_plan(plan).count("\n"), len(plan))

    def test_of_the_tongue(self):
        self.assertEqual(read_plan(("x", "ab"), "plan\n2 ab x"), ((("ab", "x"),),))
        self.refused("plan\n2 ab x")
        self.refused("plan\n1 a", ("b",))
        self.assertEqual(read_plan(("b",), "plan"), ())


class NoTextTest(PlanTexts):
    def test_of_anything(self):
        for thing in anything() + [(), ((("a",),),), ["plan"], ("plan",), b"plan", 5]:
            self.refused(thing)

    def test_blanks(self):
        for text in (" plan", "plan ", "plan\n 1 a", "plan\n1 a ", "plan\n1  a", "plan\n0 ", "plan\n ", "plan\n0  0",
                     "plan\n1 ",
                     "plan \n1 a", "plan 1 a", "plan\t", "plan\n1\ta", "plan\n1 a\t"):
            self.refused(text)
        for plan, text in WRITTEN:
            for place in range(len(text) + 1):
                if place == 0 or text[place - 1] == "\n" or text[place:place + 1] in (" ", "\n", ""):
                    self.refused(text[:place] + " " + text[place:], ("ab", "012"))

    def test_line_feeds(self):
        for text in ("", "\n", "plan\n", "\nplan", "plan\n\n1 a", "plan\n1 a\n", "plan\n1\na", "plan\r1 a",
                     "plan\r\n1 a", "plan\n\n"):
            self.refused(text)

    def test_other_first_lines(self):
        for text in ("Plan", "plans", "1 a", "0", "signs ab 01", "plan plan", "plan\nplan", "signs ab 01\n1 a"):
            self.refused(text)
            self.refused(text + "\n1 a")

    def test_a_number_too_great_or_too_small(self):
        for told in ("2 a", "3 a b", "0 a", "1 a b", "1", "2 a b 1", "2 a b 2 0", "1 a 2 0", "1 a b 1 0", "2 a 1 a b",
                     "13 a",
                     "1 2", "0 1", "9" * 80 + " a", "9" * 81 + " a", "9" * 1900 + " a", "1" + "0" * 5000, "4 a b 0",
                     "10 a b"):
            self.refused("plan\n" + told)

    def test_figures(self):
        for wrong in ("00", "01", "-1", "+1", "1.", "a", "", "-", "0x1", "1_", "\u0661", "\u00b9", "None", "one"):
            self.refused(f"plan\n{wrong} a")
            self.refused(f"plan\n1 a {wrong}")
            self.refused(f"plan\n1 a {wrong} b")
        self.refused("plan\n01 a")
        self.refused("plan\n00")

    def test_no_steps(self):
        for told in ("1 c", "1 A", "1 abababa", "2 a a", "2 a ab 0", "2 ab a 1 b", "1 a 2 b b", "1 a%", "2 ab a 0"):
            self.refused("plan\n" + told)
            self.refused("plan\n1 a\n" + told)
            self.refused("plan\n" + told + "\n1 a")
        self.assertEqual(read_plan(TONGUE, "plan\n2 ab a"), ((("ab", "a"),),))

    def test_what_is_read_is_written_so(self):
        # Whatever one sign is changed to: what is still read as a plan is written as the same text.
        draw = random.Random(202)
        read = 0
        for plan, text in WRITTEN:
            for _ in range(300):
                place = draw.randrange(len(text))
                changed = text[:place] + draw.choice(" ab0123\npln") + text[place + draw.randint(0, 1):]
                try:
                    told = read_plan(("ab", "012"), changed)
                except NoText:
                    continue
                read += 1
                self.assertEqual(show_plan(told), changed)
                self.assertIs(is_plan(("ab", "012"), told), True)
        self.assertGreater(read, 100)


if __name__ == "__main__":
    unittest.main()
