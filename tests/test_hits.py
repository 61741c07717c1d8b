import copy
import math
import random
import unittest

from tests.samples import chain, cycle, let, rows_let_up_to, some_machines
from tests.spoken import APART, calls_during, is_so, numbers_of, some_sentences
from tests.tried import row_of_tries, some_plan
from wordrules.counts import counts
from wordrules.hits import hits, share_found
from wordrules.making import machine_of
from wordrules.places import how_many
from wordrules.rules import rule_weight

TONGUE = ("ab", "01")
TWELVE = ("abcdef", "012345")
SIGNS = tuple("abcdef012345")
ALL = ([True], [[0] * 4])
NONE = ([False], [[None] * 4])
PLAN = ((("a", "b"), ("0", "1")), (("b1", "b", "a0"),), (("0", "a", "b"), ("0", "1")))
ENDS_0 = ([False, True], [[0, 0, 1, 0], [0, 0, 1, 0]])


def hits_by_hand(tongue, plan, machine, n, most):
    return sum(len(word) <= most and let(machine, numbers_of(tongue, word)) for word in row_of_tries(plan)[:n])


class HitsTest(unittest.TestCase):
    def test_told_as_they_are(self):
        # The tries are a0, a1, b0, b1, b, 00, 01.
        self.assertEqual([hits(TONGUE, PLAN, ENDS_0, n, 60) for n in range(8)], [0, 1, 1, 2, 2, 2, 3, 3])
        self.assertEqual([hits(TONGUE, PLAN, ALL, n, 1) for n in range(8)], [0, 0, 0, 0, 0, 1, 1, 1])
        self.assertEqual([hits(TONGUE, PLAN, ALL, n, 2) for n in range(8)], list(range(8)))
        self.assertIs(type(hits(TONGUE, PLAN, ENDS_0, 3, 60)), int)

    def test_try_by_try(self):
        draw = random.Random(171)
        for machine in some_machines(172, 400, 6, 4):
            tongue = (("a",), ("a", "b"), ("ab", "0"), TONGUE)[len(machine[1][0]) - 1]
            plan = some_plan(draw, "".join(tongue))
            many = len(row_of_tries(plan))
            for n in {0, 1, many // 3, many // 2, many - 1, many}:
                if 0 <= n <= many:
                    for most in (0, draw.randint(1, 5), draw.randint(3, 12), 60):
                        self.assertEqual(hits(tongue, plan, machine, n, most),
                                         hits_by_hand(tongue, plan, machine, n, most))

    def test_every_number_of_tries(self):
        draw = random.Random(173)
        for machine in some_machines(174, 60, 6, 2):
            tongue = ("ba"[:len(machine[1][0])],)
            plan = some_plan(draw, tongue[0])
            for n in range(min(40, len(row_of_tries(plan)) + 1)):
                self.assertEqual(hits(tongue, plan, machine, n, 7), hits_by_hand(tongue, plan, machine, n, 7))

    def test_of_rules(self):
        draw = random.Random(175)
        for sentence in some_sentences(176, 60, TONGUE, 3):
            if rule_weight((TONGUE, (sentence, APART))) <= 160:
                plan = some_plan(draw, "ab01")
                row = row_of_tries(plan)
                expected = sum(is_so(TONGUE, sentence, word) and is_so(TONGUE, APART, word) for word in row)
                machine = machine_of((TONGUE, (sentence, APART)))
                self.assertEqual(hits(TONGUE, plan, machine, len(row), 60), expected)

    def test_no_tries_and_all(self):
        for plan in ((), (((),),), PLAN, (PLAN[0],) * 3):
            self.assertEqual(hits(TONGUE, plan, ALL, 0, 60), 0)
            self.assertEqual(hits(TONGUE, plan, ALL, how_many(plan), 60), how_many(plan))
            self.assertEqual(hits(TONGUE, plan, NONE, how_many(plan), 60), 0)

    def test_a_most_of_0_and_of_60(self):
        plan = ((("a",), ("b",)),)
        self.assertEqual(hits(TONGUE, plan, ALL, 1, 0), 0)
        self.assertEqual(hits(TONGUE, plan, ALL, 1, 1), 0)
        self.assertEqual(hits(TONGUE, plan, ALL, 1, 2), 1)
        self.assertEqual(hits(TONGUE, plan, ALL, 1, 60), 1)

    def test_words_longer_than_sixty_signs(self):
        # Words beyond their bound: put together of 29 to 31 signs each.
        part = tuple(sign + "a" * length for sign, length in (("a", 28), ("b", 29), ("0", 30)))
        plan = ((part, part), (part[:2], part[1:]))
        for most, expected in ((57, 0), (58, 1), (59, 3), (60, 6), (61, 8), (62, 9)):
            self.assertEqual(hits(TONGUE, plan, ALL, 9, most), expected)
            self.assertEqual(hits(TONGUE, plan, ALL, 9, most), hits_by_hand(TONGUE, plan, ALL, 9, most))

    def test_words_of_two_steps_are_counted_once(self):
        step = (("a", "b"), ("0", "1"))
        for n in range(5):
            for plan in ((step,), (step,) * 2, (step,) * 3, (step, tuple(part[::-1] for part in step))):
                self.assertEqual(hits(TONGUE, plan, ENDS_0, n, 60), hits_by_hand(TONGUE, (step,), ENDS_0, n, 60))

    def test_by_the_signs_numbers(self):
        machine = ([False, True], [[None, 1], [None, None]])
        self.assertEqual(hits(("ab",), ((("a",),),), machine, 1, 60), 0)
        self.assertEqual(hits(("ba",), ((("a",),),), machine, 1, 60), 1)
        self.assertEqual(hits(("b", "a"), ((("a",),),), machine, 1, 60), 1)

    def test_great_plans(self):
        great = (SIGNS,) * 5
        letters = ([True], [[0] * 6 + [None] * 6])
        for plan in ((great,), (great,) * 3, ((SIGNS[:6],) * 5, great, great)):
            self.assertEqual(hits(TWELVE, plan, letters, 12 ** 5, 60), 6 ** 5)
            self.assertEqual(hits(TWELVE, plan, letters, 12 ** 5, 4), 0)
            self.assertEqual(hits(TWELVE, plan, letters, 12 ** 5, 5), 6 ** 5)
            self.assertEqual(hits(TWELVE, plan, letters, 1, 5), 1)
        # Those that begin with a come first, 6 ** 4 of them of letters alone, then those with b.
        self.assertEqual(hits(TWELVE, (great,), letters, 12 ** 4, 60), 6 ** 4)
        self.assertEqual(hits(TWELVE, (great,), letters, 12 ** 4 + 12 ** 3, 60), 6 ** 4 + 6 ** 3)
        self.assertEqual(hits(TWELVE, ((SIGNS[:6],) * 5, great), letters, 6 ** 5 + 17, 60), 6 ** 5)

    def test_many_millions(self):
        # Parts beyond five, so that each step makes some thirty-six million words.
        great = (SIGNS,) * 7
        plan = (great, (SIGNS[::-1],) * 7, great + (("0",),))
        self.assertEqual(hits(TWELVE, plan, cycle(2, 12), 2 * 12 ** 7, 60), 12 ** 7)
        self.assertEqual(hits(TWELVE, plan, cycle(6, 12), 2 * 12 ** 7, 60), 0)
        self.assertEqual(hits(TWELVE, plan, cycle(4, 12), 12 ** 7 + 123456, 60), 123456)
        self.assertEqual(share_found(TWELVE, plan, chain(6, 12), 2 * 12 ** 7, 60), (0, 1))
        self.assertEqual(share_found(TWELVE, plan, cycle(6, 12), 12 ** 7, 60), (0, 1))
        self.assertEqual(share_found(TWELVE, plan, ([True], [[0] * 12]), 12 ** 7, 7),
                         (12 ** 7, sum(12 ** length for length in range(8))))

    def test_without_going_through(self):
        plan = ((SIGNS,) * 5, (SIGNS[::-1],) * 5, (SIGNS[3:] + SIGNS[:3],) * 5)
        machine = cycle(5, 12)
        for deed in (hits, share_found):
            self.assertLess(calls_during(lambda: deed(TWELVE, plan, machine, 12 ** 5 - 1, 60)), 60000)

    def test_machines_that_were_told(self):
        rule = (TWELVE, (("often", "ab", 3), ("least", 1, 8)))
        self.assertEqual(rule_weight(rule), 153)
        machine = machine_of(rule)
        part = tuple(sign + "0" for sign in SIGNS)
        plan = ((part,) * 5, (SIGNS,) * 5, (part[:11],) * 5)
        # Of ten signs five are figures; three more and not more than three times a, than three times b.
        expected = sum(math.comb(5, a) * math.comb(5 - a, b) * math.comb(5 - a - b, figures)
                       * 6 ** figures * 4 ** (5 - a - b - figures)
                       for figures in range(3, 6) for a in range(6 - figures) for b in range(6 - figures - a)
                       if a <= 3 and b <= 3)
        self.assertEqual(hits(TWELVE, plan, machine, how_many(plan), 60), expected)

    def test_what_is_handed_in_stays(self):
        machine = copy.deepcopy(ENDS_0)
        for deed in (hits, share_found):
            first = deed(TONGUE, PLAN, machine, 5, 60)
            self.assertEqual(machine, ENDS_0)
            self.assertEqual(deed(TONGUE, PLAN, machine, 5, 60), first)
        machine[0][1] = False
        self.assertEqual(hits(TONGUE, PLAN, machine, 7, 60), 0)
        self.assertEqual(share_found(TONGUE, PLAN, machine, 7, 60), (0, 1))


class ShareFoundTest(unittest.TestCase):
    def test_told_as_they_are(self):
        # Of one and two signs five end with 0; of three 16 more.
        self.assertEqual(share_found(TONGUE, PLAN, ENDS_0, 7, 2), (3, 5))
        self.assertEqual(share_found(TONGUE, PLAN, ENDS_0, 7, 3), (1, 7))
        self.assertEqual(share_found(TONGUE, PLAN, ENDS_0, 1, 2), (1, 5))
        self.assertIs(type(share_found(TONGUE, PLAN, ENDS_0, 7, 2)), tuple)

    def test_none_let(self):
        for n in (0, 3, 7):
            for most in (0, 1, 60):
                self.assertEqual(share_found(TONGUE, PLAN, NONE, n, most), (0, 1))
        self.assertEqual(share_found(TONGUE, PLAN, ENDS_0, 7, 0), (0, 1))
        self.assertEqual(share_found(TONGUE, PLAN, chain(4, 4), 7, 2), (0, 1))

    def test_none_found(self):
        self.assertEqual(share_found(TONGUE, PLAN, ENDS_0, 0, 60), (0, 1))
        self.assertEqual(share_found(TONGUE, (), ALL, 0, 60), (0, 1))
        self.assertEqual(share_found(TONGUE, PLAN, ALL, 7, 0), (0, 1))

    def test_all_found(self):
        self.assertEqual(share_found(("a",), ((("a", "aa", "aaa"),),), ([False, True], [[1], [1]]), 3, 3), (1, 1))
        self.assertEqual(share_found(("a",), ((("a", "aa", "aaa"),),), ([True], [[0]]), 3, 3), (3, 4))

    def test_in_lowest_terms(self):
        draw = random.Random(177)
        for machine in some_machines(178, 200, 6, 3):
            tongue = ("ab0"[:len(machine[1][0])],)
            plan = some_plan(draw, tongue[0])
            n, most = draw.randint(0, len(row_of_tries(plan))), draw.randint(0, 6)
            top, bottom = share_found(tongue, plan, machine, n, most)
            all_let = len(rows_let_up_to(machine, most))
            self.assertEqual(top * max(all_let, 1), hits_by_hand(tongue, plan, machine, n, most) * bottom)
            self.assertEqual(math.gcd(top, bottom), 1)
            self.assertGreaterEqual(bottom, 1)
            self.assertIs(type(top), int)
            self.assertIs(type(bottom), int)

    def test_over_sixty_signs(self):
        bottom = sum(counts(ALL, 60))
        self.assertEqual(share_found(TONGUE, PLAN, ALL, 7, 60), (7 // math.gcd(7, bottom),
                                                                 bottom // math.gcd(7, bottom)))


if __name__ == "__main__":
    unittest.main()
