import itertools
import random
import unittest

from tests.anything import anything
from tests.spoken import calls_during, words_up_to
from tests.tried import row_of_tries, some_plan
from wordrules.errors import NoNumber, WordError
from wordrules.places import how_many, place, try_at
from wordrules.plans import is_plan, tries

SIGNS = tuple("abcdef012345")
GREAT = (SIGNS,) * 5
STEP = (("ab", "b"), ("0",), ("1", "10", "ba"))
PLAN = ((("a", "b"), ("0", "1")), (("b1", "b", "a0"),), (("0", "a", "b"), ("0", "1")))


class Places(unittest.TestCase):
    def refused(self, deed):
        for kind in (NoNumber, WordError, ValueError):
            with self.assertRaises(kind) as caught:
                deed()
            self.assertIs(type(caught.exception), NoNumber)

    def go_through(self, plan):
        """Every try of the plan at its place, and nothing behind the last one."""
        row = row_of_tries(plan)
        self.assertEqual(how_many(plan), len(row))
        self.assertIs(type(how_many(plan)), int)
        for number, word in enumerate(row):
            self.assertEqual(place(plan, word), number)
            self.assertIs(type(place(plan, word)), int)
            self.assertEqual(try_at(plan, number), word)
        for beyond in (len(row), len(row) + 1, 10 ** 79):
            self.refused(lambda: try_at(plan, beyond))
        return row


class EveryPlanTest(Places):
    def test_told_as_they_are(self):
        self.assertEqual(how_many(PLAN), 7)
        self.assertEqual([try_at(PLAN, number) for number in range(7)], ["a0", "a1", "b0", "b1", "b", "00", "01"])
        self.assertEqual(place(PLAN, "b"), 4)
        self.assertEqual(place(PLAN, "a0"), 0)
        self.assertEqual(place(PLAN, "01"), 6)
        self.assertIsNone(place(PLAN, "0"))

    def test_try_by_try(self):
        draw = random.Random(161)
        shared = 0
        for _ in range(500):
            plan = some_plan(draw, "ab0"[:draw.randint(1, 3)])
            row = self.go_through(plan)
            shared += len(row) < sum(len(row_of_tries((step,))) for step in plan)
        self.assertGreater(shared, 100)

    def test_all_small_plans_of_one_sign(self):
        parts = [(), ("a",), ("aa",), ("a", "aa"), ("aa", "a"), ("aaa", "a")]
        steps = [(part,) for part in parts] + [(first, part) for first in (("a",), ("aa",)) for part in parts]
        for plan in itertools.product(steps, repeat=2):
            self.go_through(plan)
        for plan in itertools.product(steps[::2], repeat=3):
            self.go_through(plan)

    def test_no_steps_one_and_three_alike_ones(self):
        self.assertEqual(self.go_through(()), [])
        self.assertEqual(len(self.go_through((STEP,))), 6)
        self.assertEqual(len(self.go_through((STEP,) * 3)), 6)

    def test_parts_without_words(self):
        for step in (((),), ((), ("a",)), (("a",), ()), (("a", "b"), (), ("0",)), ((), (), ())):
            self.assertEqual(self.go_through((step,)), [])
            self.go_through((step, STEP, step))
            self.go_through((STEP, step, (("b",), ("01", "1"))))

    def test_other_cuts(self):
        self.go_through(((("ab", "b"), ("a", "ba")), (("abb", "aba"), ("a",)), (("a",), ("ba", "bba", "b", "bb"))))
        self.go_through(((("a",), ("a",), ("a", "aa", "aaa")), (("aa",), ("a", "aaa", "aa")), (("aaaa", "a", "aaa"),)))
        self.go_through(((("a", "b"), ("a", "aa", "aaa", "b", "ab", "ba")),
                         (("aa", "ab", "b"), ("a", "b", "ab", "aa"))))
        self.go_through((tuple(("ab", "ba") for _ in range(3)), (("abab", "abba", "baab"), ("ab", "ba", "b"))))

    def test_one_and_five_parts(self):
        self.go_through(((("ab", "b", "a"),), (("a", "b"),) * 5, (("aa", "ab", "b"), ("a", "b", "aa", "bb"))))

    def test_just_so_many_and_one_more(self):
        just = (SIGNS[:10], SIGNS[:10], SIGNS[:4], SIGNS[:5])
        row = tries((just,))
        for plan, many in (((just,), 2000), ((just, (("a",),)), 2001), ((just, just), 2000),
                           ((just, (("aaaa",),)), 2000)):
            self.assertEqual(how_many(plan), many)
            for number in (0, 1, 777, 1998, 1999):
                self.assertEqual(try_at(plan, number), row[number])
                self.assertEqual(place(plan, row[number]), number)
            self.refused(lambda: try_at(plan, many))
        self.assertEqual(try_at((just, (("a",),)), 2000), "a")
        self.assertEqual(place((just, (("a",),)), "a"), 2000)

    def test_words_longer_than_sixty_signs(self):
        long = ("a" * 40, "b" * 50)
        plan = ((long, long, ("a", "ab")), (long, ("a" * 41, "b" * 50)))
        row = self.go_through(plan)
        self.assertEqual(max(len(word) for word in row), 102)
        self.assertEqual(len(row), 8 + 2)

    def test_of_any_text(self):
        for text in ("", "a", " ", "\n", "a0\n", " a0", "a0 ", "A0", "a0a0", "~" * 2000, "a" * 2000, "ab" * 1000, "0a"):
            self.assertIsNone(place(PLAN, text))
            self.assertIsNone(place((), text))
            self.assertIsNone(place((((),), ((), ("a",))), text))
        for text in words_up_to("ab01", 4):
            self.assertEqual(place(PLAN, text), {word: number for number, word in enumerate(tries(PLAN))}.get(text))
            self.assertEqual(place((STEP,), text), {word: number for number,
                                                    word in enumerate(tries((STEP,)))}.get(text))

    def test_no_number(self):
        for plan in (PLAN, (STEP,), (), (((),),), (GREAT,) * 3):
            for thing in anything() + [-2, "0", "1", [0], (0,), {0: 0}, 10 ** 6]:
                if type(thing) is int and 0 <= thing < how_many(plan):
                    continue
                self.refused(lambda: try_at(plan, thing))
            for thing in (True, False, None, -1):
                self.refused(lambda: try_at(plan, thing))


class GreatPlansTest(Places):
    """Plans that nobody can go through: what is told of them is told at once."""

    def both_ways(self, plan, number, word):
        self.assertEqual(try_at(plan, number), word)
        self.assertEqual(place(plan, word), number)

    def test_three_great_steps(self):
        # The second step makes of the first one's words those of five signs that begin with two letters.
        letters = SIGNS[:6]
        pairs = tuple("".join(pair) for pair in itertools.product("abc", "abcd"))
        second = (pairs, SIGNS, SIGNS, SIGNS, SIGNS)
        plan = (GREAT, second, (letters, SIGNS, SIGNS, SIGNS, SIGNS))
        self.assertIs(is_plan(("abcdef", "012345"), plan), True)
        self.assertEqual(how_many(plan), 12 ** 5 + 12 ** 5)
        self.both_ways(plan, 0, "aaaaa")
        self.both_ways(plan, 12 ** 5 - 1, "55555")
        self.both_ways(plan, 12 ** 5, "aaaaaa")
        self.both_ways(plan, 2 * 12 ** 5 - 1, "cd5555")
        self.both_ways(plan, 12 ** 5 + 12 ** 4, "abaaaa")
        self.refused(lambda: try_at(plan, 2 * 12 ** 5))
        self.assertIsNone(place(plan, "da5555"))

    def test_alike_great_steps(self):
        for plan in ((GREAT,), (GREAT,) * 2, (GREAT,) * 3):
            self.assertEqual(how_many(plan), 12 ** 5)
            for number in (0, 1, 11, 12, 12 ** 4, 123456, 12 ** 5 - 1):
                word = "".join(SIGNS[number // 12 ** power % 12] for power in (4, 3, 2, 1, 0))
                self.both_ways(plan, number, word)

    def test_fewer_and_more_of_the_same(self):
        # The second step turns all parts about and has what the first leaves out.
        half = (SIGNS[:6],) * 5
        plan = (half, (SIGNS[::-1],) * 5, (SIGNS[:3],) * 5)
        self.assertEqual(how_many(plan), 12 ** 5)
        self.both_ways(plan, 6 ** 5 - 1, "fffff")
        self.both_ways(plan, 6 ** 5, "55555")
        # Of those that begin with letters behind the figures first, those of letters alone are left out.
        self.both_ways(plan, 6 ** 5 + 6 * 12 ** 4, "f5555")
        self.both_ways(plan, 12 ** 5 - 1, "aaaa0")
        self.refused(lambda: try_at(plan, 12 ** 5))

    def test_many_millions(self):
        # Parts beyond five, so that each step makes some thirty-six million words.
        great = (SIGNS,) * 7
        pairs = tuple("".join(pair) for pair in itertools.product("abcdef", "01"))
        plan = (great, (pairs,) + (SIGNS,) * 5, (pairs,) + (SIGNS,) * 6)
        self.assertEqual(how_many(plan), 12 ** 7 + 12 ** 7)
        self.both_ways(plan, 12 ** 7 - 1, "5" * 7)
        self.both_ways(plan, 12 ** 7, "a0aaaaaa")
        self.both_ways(plan, 2 * 12 ** 7 - 1, "f1555555")

    def test_without_going_through(self):
        alike = ((SIGNS,) * 5, (SIGNS[::-1],) * 5, (SIGNS[3:] + SIGNS[:3],) * 5)
        # What the first two steps don't make must not be kept in mind by all its signs.
        unlike = ((("a",),), (("b", "cc"),), (SIGNS,) * 5)
        for plan in (alike, unlike):
            many = how_many(plan)
            for deed in (lambda: how_many(plan), lambda: place(plan, "55555"), lambda: try_at(plan, many - 1),
                         lambda: place(plan, "x"), lambda: self.refused(lambda: try_at(plan, many))):
                self.assertLess(calls_during(deed), 60000)

    def test_words_of_two_signs_that_cross_in_many_cuts(self):
        draw = random.Random(162)
        threes = words_up_to("ab", 3)[7:]
        twos = words_up_to("ab", 4)[15:]
        plan = ((tuple(threes),) * 5, (tuple(twos[:12]),) * 3 + (tuple(threes[:5]),),
                (tuple(threes[::2]), tuple(twos[4:])) * 2)
        row = row_of_tries(plan)
        self.assertEqual(how_many(plan), len(row))
        for number in [0, 8 ** 5 - 1, 8 ** 5, len(row) - 1] + [draw.randrange(len(row)) for _ in range(60)]:
            self.both_ways(plan, number, row[number])


if __name__ == "__main__":
    unittest.main()
