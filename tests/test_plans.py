import copy
import random
import unittest

from tests.anything import anything
from tests.spoken import calls_during, words_up_to
from tests.tried import row_of_tries, some_plan, some_step, words_of_step
from wordrules.errors import TooMuch, WordError
from wordrules.plans import is_plan, is_step, made, tries

TONGUE = ("ab", "01")
TWELVE = ("abcdef", "012345")
SIGNS = tuple("abcdef012345")
STEP = (("ab", "b"), ("0",), ("1", "10", "ba"))
# It makes just 2,000 words.
JUST = (SIGNS[:10], SIGNS[:10], SIGNS[:4], SIGNS[:5])


class Looks(unittest.TestCase):
    def yes(self, look, thing, tongue=TONGUE):
        self.assertIs(look(tongue, thing), True, thing)

    def no(self, look, thing, tongue=TONGUE):
        self.assertIs(look(tongue, thing), False)

    def both_no(self, step, tongue=TONGUE):
        """Neither the step nor a plan with it."""
        self.no(is_step, step, tongue)
        for plan in ((step,), ((("a",),), step), (step, (("a",),))):
            self.no(is_plan, plan, tongue)


class IsStepTest(Looks):
    def test_steps(self):
        for step in (STEP, ((),), ((), ()), (("a",),), (("a", "b"),) * 5, (("a",), (), ("b",)), ((),) * 5):
            self.yes(is_step, step)
            self.yes(is_plan, (step,))
        draw = random.Random(153)
        for _ in range(300):
            self.yes(is_step, some_step(draw, "ab01"))

    def test_how_many_parts(self):
        for many in range(9):
            step = (("a", "b"),) * many
            self.assertIs(is_step(TONGUE, step), 1 <= many <= 5)
            self.assertIs(is_plan(TONGUE, (step,)), 1 <= many <= 5)

    def test_how_many_words(self):
        words = tuple(words_up_to("ab", 4)[15:])
        for many in range(17):
            self.assertIs(is_step(TONGUE, (words[:many],)), many <= 12)
            self.assertIs(is_step(TONGUE, (words[:many], ("a",))), many <= 12)
            self.assertIs(is_step(TONGUE, (("a",), words[:many])), many <= 12)

    def test_how_long_words(self):
        for many in range(9):
            for step in ((("a" * many,),), (("a" * many,), ("b",)), (("b",), ("b", "a" * many))):
                self.assertIs(is_step(TONGUE, step), 1 <= many <= 6)

    def test_words_of_other_signs(self):
        for word in ("c", "ac", "A", "a ", " ", "a%", "\n", "a\n"):
            self.both_no(((word,),))
            self.both_no((("a",), ("b", word)))
            self.both_no(((word, "b"), ("a",)))
        self.yes(is_step, STEP, TWELVE)
        self.no(is_step, STEP, ("ab",))

    def test_a_word_twice(self):
        for step in ((("a", "a"),), (("a", "b", "a"), ("a",)), (("a",), ("0", "b", "b")), (("a",), ("b", "b"), ())):
            self.both_no(step)
        self.yes(is_step, (("a",), ("a",), ("a",)))

    def test_a_word_that_begins_with_another(self):
        for part in (("a", "ab"), ("ab", "a"), ("b", "a", "ab"), ("aba", "b", "ab"), ("ab01ab", "1", "ab01a")):
            self.yes(is_step, (part,))
            self.yes(is_step, (("a",), part))
            self.both_no((part, ("a",)))
            self.both_no((part, ()))
            self.both_no((("a",), part, ("b",)))
            self.both_no((part, part))

    def test_words_that_end_alike_or_hold_one_another(self):
        for part in (("ab", "b"), ("ba0", "a0", "0"), ("bab", "a"), ("aab", "ab", "b")):
            self.yes(is_step, (part, ("a",)))
            self.yes(is_step, (part,) * 5)

    def test_lists_in_the_place_of_tuples(self):
        self.both_no([("a",)])
        self.both_no((["a"],))
        self.both_no((("a",), ["b"]))
        self.both_no((["a"], ("b",)))
        self.both_no([])
        self.both_no(([],))
        self.both_no("a")
        self.both_no(("a",))
        self.both_no(("a", "b"))
        self.both_no(((("a",),),))

    def test_no_words(self):
        for word in (None, 0, True, ["a"], ("a",), (), b"a", {"a": 1}, {"a"}, [0]):
            self.both_no(((word,),))
            self.both_no((("a", word),))
            self.both_no(((word, "a"), ("b",)))

    def test_of_anything(self):
        for thing in anything():
            if thing != ((),):
                self.both_no(thing)
            if thing not in ((), ("a",)):
                self.both_no((thing,))
                self.both_no((("a",), thing))
                self.both_no((thing, ("a",)))
            if thing not in ("a", "ab"):
                self.both_no(((thing,),))
                self.both_no((("b", thing),))

    def test_of_lists_told_true_or_false(self):
        self.assertIs(is_step(TONGUE, ((),)), True)
        self.assertIs(is_step(TONGUE, ()), False)


class IsPlanTest(Looks):
    def test_how_many_steps(self):
        for many in range(7):
            self.assertIs(is_plan(TONGUE, (STEP,) * many), many <= 3)

    def test_lists_in_the_place_of_tuples(self):
        for plan in ([], [STEP], (list(STEP),), ([],), (STEP, list(STEP)), STEP, "plan", (STEP, None), (None,), ("a",)):
            self.no(is_plan, plan)

    def test_of_anything(self):
        for thing in anything():
            if thing != ():
                self.no(is_plan, thing)
            if thing != ((),):
                self.no(is_plan, (thing,))
                self.no(is_plan, (STEP, thing))
                self.no(is_plan, (thing, STEP))

    def test_of_the_tongue(self):
        self.yes(is_plan, (STEP, STEP), TWELVE)
        self.no(is_plan, (STEP, (("c",),)))
        self.yes(is_plan, (STEP, (("c",),)), TWELVE)
        self.yes(is_plan, (), ("x",))


class MadeTest(unittest.TestCase):
    def refused(self, deed):
        for kind in (TooMuch, WordError, ValueError):
            with self.assertRaises(kind) as caught:
                deed()
            self.assertIs(type(caught.exception), TooMuch)

    def test_told_as_they_are(self):
        self.assertEqual(made(STEP), ["ab01", "ab010", "ab0ba", "b01", "b010", "b0ba"])
        self.assertEqual(made((("b", "a"), ("1", "0"))), ["b1", "b0", "a1", "a0"])
        self.assertEqual(made((("b", "ba", "a"),)), ["b", "ba", "a"])

    def test_five_parts(self):
        step = (("a", "b"),) * 5
        self.assertEqual(made(step), words_up_to("ab", 5)[31:])

    def test_a_part_without_words(self):
        for step in (((),), ((), ("a",)), (("a",), ()), (("a", "b"), (), ("0",)), (SIGNS,) * 4 + ((),),
                     ((),) + (SIGNS,) * 4):
            self.assertEqual(made(step), [])
            self.assertEqual(tries((step,)), [])
            self.assertEqual(tries((step, (("a",),), step)), ["a"])

    def test_other_cuts_in_the_last_part(self):
        step = (("a", "b"), ("a", "aa", "aaa", "b", "ab", "ba"))
        self.assertEqual(made(step), ["aa", "aaa", "aaaa", "ab", "aab", "aba", "ba", "baa", "baaa", "bb", "bab", "bba"])

    def test_word_by_word(self):
        draw = random.Random(151)
        for _ in range(400):
            step = some_step(draw, "ab01")
            self.assertEqual(made(step), words_of_step(step))
            self.assertEqual(len(set(made(step))), len(made(step)))

    def test_just_so_many_and_one_more(self):
        self.assertEqual(len(made(JUST)), 2000)
        self.assertEqual(made(JUST), words_of_step(JUST))
        # 2,001 words are 23 times 87: parts somewhat beyond their bound.
        words = tuple(words_up_to("ab", 10)[1023:])
        self.assertEqual(len(words_of_step((words[:23], words[:87]))), 2001)
        self.refused(lambda: made((words[:23], words[:87])))
        self.assertEqual(len(made((words[:400], SIGNS[:5]))), 2000)
        self.refused(lambda: made((SIGNS[:12], SIGNS[:12], SIGNS[:2], SIGNS[:7])))
        self.refused(lambda: made((SIGNS,) * 5))

    def test_refused_ahead_of_the_work(self):
        self.assertLess(calls_during(lambda: self.refused(lambda: made((SIGNS,) * 5))), 2000)
        self.assertLess(calls_during(lambda: self.refused(lambda: tries(((SIGNS,) * 5,) * 3))), 2000)

    def test_own(self):
        told = made(STEP)
        self.assertIs(type(told), list)
        told.append("x")
        told[0] = "y"
        self.assertEqual(made(STEP), ["ab01", "ab010", "ab0ba", "b01", "b010", "b0ba"])


class TriesTest(unittest.TestCase):
    refused = MadeTest.refused

    def test_told_as_they_are(self):
        plan = ((("a", "b"), ("0", "1")), (("b1", "b", "a0"),), (("0", "a", "b"), ("0", "1")))
        self.assertEqual(tries(plan), ["a0", "a1", "b0", "b1", "b", "00", "01"])

    def test_no_steps_and_alike_ones(self):
        self.assertEqual(tries(()), [])
        self.assertEqual(tries((STEP,)), made(STEP))
        self.assertEqual(tries((STEP,) * 3), made(STEP))

    def test_the_same_words_by_other_cuts(self):
        plan = ((("ab", "b"), ("a", "ba")), (("abb", "aba"), ("a",)), (("a",), ("ba", "bba", "b", "bb")))
        self.assertEqual(tries(plan), ["aba", "abba", "ba", "bba", "abaa", "ab", "abb"])

    def test_each_once_where_it_comes_first(self):
        draw = random.Random(152)
        for _ in range(400):
            plan = some_plan(draw, "ab0"[:draw.randint(1, 3)])
            self.assertIs(is_plan(TONGUE, plan), True)
            self.assertEqual(tries(plan), row_of_tries(plan))

    def test_just_so_many_and_one_more(self):
        half = (SIGNS[:10], SIGNS[:10], SIGNS[:10])
        one = (("a",),)
        for plan in ((JUST,), (half, half), (JUST, ((),)), (((),), half, half)):
            self.assertEqual(tries(plan), row_of_tries(plan))
        for plan in ((JUST, one), (one, JUST), (half, half, one), (half, one, half), (JUST, JUST),
                     (JUST, (("aaaa",),))):
            self.refused(lambda: tries(plan))
        self.assertEqual(len(tries(((SIGNS, SIGNS), JUST[:3] + (SIGNS[:4],)))), 144 + 1600)

    def test_a_word_of_two_steps_is_counted_twice(self):
        first = made(JUST)[0]
        self.refused(lambda: tries((JUST, ((first,),))))
        self.assertEqual(len(set(words_of_step(JUST) + [first])), 2000)

    def test_own(self):
        plan = (STEP, (("a",),))
        told = tries(plan)
        expected = copy.copy(told)
        self.assertIs(type(told), list)
        told.clear()
        self.assertEqual(tries(plan), expected)
        told = tries(plan)
        told[0] = "x"
        self.assertEqual(tries(plan), expected)


if __name__ == "__main__":
    unittest.main()
