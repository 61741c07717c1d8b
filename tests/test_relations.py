import copy
import itertools
import random
import unittest

from tests.anything import anything, deep
from tests.samples import all_machines, chain, cycle, ends_at, let, let_the_same, rows_up_to, some_machines, with_stands
from tests.spoken import some_sentences
from wordrules.errors import TooMuch, WordError
from wordrules.joins import both, opposite
from wordrules.least import least
from wordrules.making import machine_of
from wordrules.relations import compared, holds_alike, holds_within, within
from wordrules.rules import rule_of, rule_weight

NONE = ([False], [[None, None]])
ALL = ([True], [[0, 0]])
# Rows that end with 0; the same with stands more and None in the place of a stand that isn't alive.
ENDS = ([False, True], [[1, 0], [1, 0]])
ENDS_WIDE = ([False, True, False, True], [[1, 2], [3, 2], [3, 0], [1, 2]])
BEGINS = ([False, True], [[None, 1], [1, 1]])
BEGINS_WIDE = ([False, True, False], [[2, 1], [1, 1], [2, 2]])
ALIKE_PAIRS = [(0, 0), (1, 1), (0, 2), (1, 3)]


def pairs_of_machines():
    small = list(all_machines(1, 2))[::2] + [([True], [[None]]), ([False], [[0]]), ([True], [[0]])]
    found = list(itertools.product(small, repeat=2))
    by_signs = {}
    for machine in some_machines(111, 200, 4):
        by_signs.setdefault(len(machine[1][0]), []).append(machine)
    for machines in by_signs.values():
        found += list(zip(machines, machines[1:])) + [(machine, least(machine)) for machine in machines]
        found += [(both(one, other), one) for one, other in zip(machines, machines[2:])]
    return found


def first_of(rows, wanted):
    return next((row for row in rows if wanted(row)), None)


def most_of(one):
    return {1: 9, 2: 7, 3: 5}[len(one[1][0])]


class ComparedTest(unittest.TestCase):
    def test_told_as_they_are(self):
        self.assertEqual(compared(ENDS, ENDS), ("alike", [(0, 0), (1, 1)]))
        self.assertEqual(compared(ENDS, BEGINS), ("unlike", [0]))
        self.assertEqual(compared(ALL, ENDS), ("unlike", []))
        self.assertEqual(compared(BEGINS, NONE), ("unlike", [1]))
        self.assertEqual(compared(NONE, NONE)[0], "alike")
        self.assertEqual(compared(cycle(2), cycle(3)), ("unlike", [0, 0]))

    def test_alike_but_of_other_stands(self):
        for one, other in ((ENDS, ENDS_WIDE), (BEGINS, BEGINS_WIDE), (NONE, ([False, False], [[1, None], [0, 1]]))):
            for here, there in ((one, other), (other, one)):
                head, pairs = compared(here, there)
                self.assertEqual(head, "alike")
                self.assertIs(holds_alike(here, there, pairs), True)
                self.assertEqual(within(here, there)[0], "within")

    def test_row_by_row(self):
        heads = []
        for one, other in pairs_of_machines():
            told = compared(one, other)
            heads.append(told[0])
            parting = first_of(rows_up_to(len(one[1][0]), most_of(one)), lambda row: let(one, row) != let(other, row))
            if parting is None:
                self.assertEqual(told[0], "alike")
                self.assertTrue(let_the_same(one, other))
                self.assert_pairs(one, other, told[1])
                self.assertIs(holds_alike(one, other, told[1]), True)
            else:
                self.assertEqual(told, ("unlike", parting))
            self.assertEqual(len(told), 2)
        self.assertGreater(heads.count("alike"), 60)
        self.assertGreater(heads.count("unlike"), 60)

    def assert_pairs(self, one, other, pairs):
        self.assertIs(type(pairs), list)
        self.assertEqual(len(set(pairs)), len(pairs))
        for pair in pairs:
            self.assertIs(type(pair), tuple)
            for machine, stand in zip((one, other), pair):
                self.assertTrue(stand is None or 0 <= stand < len(machine[0]))

    def test_eighteen_stands(self):
        for machine in some_machines(112, 30, 18, 12):
            self.assertEqual(compared(machine, least(machine))[0], "alike")
            self.assertEqual(compared(machine, opposite(machine)), ("unlike", []))

    def test_two_rings_for_one_sign(self):
        self.assertEqual(compared(cycle(91), cycle(91)), ("alike", [(stand, stand) for stand in range(91)]))
        self.assertEqual(compared(cycle(91), cycle(90)), ("unlike", [0] * 90))
        ones = ([stand % 13 == 0 for stand in range(91)], cycle(91)[1])
        self.assertEqual(compared(ones, cycle(13))[0], "alike")
        one = ([stand != 88 for stand in range(89)], cycle(89)[1])
        other = ([stand != 90 for stand in range(91)], cycle(91)[1])
        self.assertEqual(compared(one, other), ("unlike", [0] * 88))
        # The other one fails only where both rings are at their last stands.
        last = ([stand == 88 for stand in range(89)], cycle(89)[1])
        self.assertEqual(within(last, other), ("out", [0] * parting_length(89, 91)))

    def test_of_rules(self):
        tongue = ("ab", "01")
        rule = rule_of(tongue, [("not", ("both", ("not", ("begins", "a")), ("not", ("ends", "1"))))])
        same = rule_of(tongue, [("either", ("begins", "a"), ("ends", "1"))])
        self.assertEqual(compared(machine_of(rule), machine_of(same))[0], "alike")
        other = rule_of(tongue, [("either", ("begins", "a"), ("ends", "b1"))])
        self.assertEqual(compared(machine_of(rule), machine_of(other)), ("unlike", [3]))


class WithinTest(unittest.TestCase):
    def test_told_as_they_are(self):
        self.assertEqual(within(ENDS, ALL), ("within", [(0, 0), (1, 0)]))
        self.assertEqual(within(ALL, ENDS), ("out", []))
        self.assertEqual(within(ENDS, BEGINS), ("out", [0]))
        self.assertEqual(within(BEGINS, ENDS), ("out", [1]))
        self.assertEqual(within(cycle(6), cycle(3))[0], "within")
        self.assertEqual(within(cycle(3), cycle(6)), ("out", [0, 0, 0]))
        self.assertEqual(within(both(ENDS, BEGINS), BEGINS)[0], "within")

    def test_none_on_one_side(self):
        self.assertEqual(within(NONE, BEGINS), ("within", [(0, 0)]))
        head, pairs = within(([False, False], [[1, 1], [1, 1]]), NONE)
        self.assertEqual((head, pairs), ("within", [(0, 0), (1, None)]))

    def test_row_by_row(self):
        heads = []
        for one, other in pairs_of_machines():
            told = within(one, other)
            heads.append(told[0])
            parting = first_of(rows_up_to(len(one[1][0]), most_of(one)),
                               lambda row: let(one, row) and not let(other, row))
            if parting is None:
                self.assertEqual(told[0], "within")
                self.assertEqual(len(set(told[1])), len(told[1]))
                self.assertIs(holds_within(one, other, told[1]), True)
                self.assertEqual(both(one, other), least(one))
            else:
                self.assertEqual(told, ("out", parting))
            self.assertEqual(len(told), 2)
        self.assertGreater(heads.count("within"), 60)
        self.assertGreater(heads.count("out"), 60)

    def test_a_sentence_more_never_lets_a_word_more(self):
        draw = random.Random(113)
        tongue = ("ab", "0")
        sentences = [told for told in some_sentences(114, 150, tongue, 2) if rule_weight((tongue, (told,))) <= 12]
        for _ in range(40):
            told = draw.sample(sentences, 2)
            fewer, more = machine_of(rule_of(tongue, told[:1])), machine_of(rule_of(tongue, told))
            self.assertEqual(within(more, fewer)[0], "within")
            self.assertEqual(within(fewer, machine_of(rule_of(tongue, [])))[0], "within")


class TooMuchTest(unittest.TestCase):
    def refused(self, one, other):
        for ask in (compared, within):
            for kind in (TooMuch, WordError, ValueError):
                with self.assertRaises(kind) as caught:
                    ask(one, other)
                self.assertIs(type(caught.exception), TooMuch)

    def test_10000_and_just_above_it(self):
        self.assertEqual(compared(cycle(99), cycle(99))[0], "alike")
        self.assertEqual(within(cycle(99), cycle(99))[0], "within")
        self.refused(cycle(99), cycle(100))
        self.refused(cycle(100), cycle(99))
        # 80 x 125 is 10,000; 73 x 137 is 10,001; 2 x 5,000 is 10,000.
        self.assertEqual(compared(chain(79), chain(124)), ("unlike", [0] * 78))
        self.assertEqual(within(chain(124), chain(79)), ("out", [0] * 123))
        self.refused(chain(72), chain(136))
        self.refused(chain(136), chain(72))
        self.assertEqual(compared(([False], [[0]]), chain(4999)), ("unlike", [0] * 4998))
        self.refused(([False], [[0]]), chain(5000))
        self.refused(chain(5000), ([False], [[0]]))

    def test_by_stands_as_they_are_handed_in(self):
        self.assertEqual(compared(with_stands(ENDS, 99), with_stands(ENDS_WIDE, 99))[0], "alike")
        self.assertEqual(compared(with_stands(ENDS, 99), with_stands(BEGINS, 99)), ("unlike", [0]))
        self.refused(with_stands(ENDS, 99), with_stands(ENDS, 100))
        self.refused(with_stands(NONE, 5000), NONE)
        self.refused(NONE, with_stands(ALL, 5000))

    def test_many_signs(self):
        self.assertEqual(compared(cycle(99, 12), cycle(98, 12)), ("unlike", [0] * 98))
        ones = ([True] * 99, cycle(99, 12)[1])
        others = ([True] * 98, cycle(98, 12)[1])
        head, pairs = compared(ones, others)
        self.assertEqual((head, len(pairs)), ("alike", 99 * 98))
        self.assertIs(holds_alike(ones, others, pairs), True)
        self.assertIs(holds_within(ones, others, pairs), True)
        self.assertIs(holds_alike(ones, others, pairs[:-1]), False)


def alike_fits(one, other, pairs):
    """Point 22 word by word, of a list of tuples of stands or None."""
    signs = range(len(one[1][0]))
    for s, t in pairs:
        if ends_at(one, s) != ends_at(other, t):
            return False
        for sign in signs:
            there = (s if s is None else one[1][s][sign], t if t is None else other[1][t][sign])
            if there not in pairs and there != (None, None):
                return False
    return (0, 0) in pairs


def within_fits(one, other, pairs):
    signs = range(len(one[1][0]))
    for s, t in pairs:
        if s is None or (ends_at(one, s) and not ends_at(other, t)):
            return False
        for sign in signs:
            there = (one[1][s][sign], t if t is None else other[1][t][sign])
            if there[0] is not None and there not in pairs:
                return False
    return (0, 0) in pairs


class HoldsPairsTest(unittest.TestCase):
    def no(self, one, other, thing):
        self.assertIs(holds_alike(one, other, thing), False)
        self.assertIs(holds_within(one, other, thing), False)

    def yes(self, one, other, thing):
        self.assertIs(holds_alike(one, other, thing), True)
        self.assertIs(holds_within(one, other, thing), True)

    def test_all_pairs_of_small_machines(self):
        machines = list(all_machines(1, 2))[::3] + [([True], [[None]]), ([False], [[0]]), ([True], [[0]])]
        let_by = [0, 0]
        for one, other in itertools.product(machines, repeat=2):
            choices = list(itertools.product([None] + list(range(len(one[0]))), [None] + list(range(len(other[0])))))
            for many in range(4):
                for pairs in itertools.combinations(choices, many):
                    alike, inside = holds_alike(one, other, list(pairs)), holds_within(one, other, list(pairs))
                    self.assertIs(alike, alike_fits(one, other, pairs))
                    self.assertIs(inside, within_fits(one, other, pairs))
                    if alike:
                        self.assertTrue(let_the_same(one, other))
                    if inside:
                        self.assertEqual(both(one, other), least(one))
                    let_by[0] += alike
                    let_by[1] += inside
        self.assertGreater(min(let_by), 50)

    def test_pairs_of_two_signs(self):
        machines = list(all_machines(2, 2))[::97]
        choices = list(itertools.product((None, 0, 1), repeat=2))
        for one, other in itertools.product(machines, repeat=2):
            for many in (1, 2, 3):
                for pairs in itertools.combinations(choices, many):
                    self.assertIs(holds_alike(one, other, list(pairs)), alike_fits(one, other, pairs))
                    self.assertIs(holds_within(one, other, list(pairs)), within_fits(one, other, pairs))

    def test_in_any_order_and_twice(self):
        self.yes(ENDS, ENDS_WIDE, ALIKE_PAIRS)
        self.yes(ENDS, ENDS_WIDE, ALIKE_PAIRS[::-1])
        self.yes(ENDS, ENDS_WIDE, ALIKE_PAIRS + ALIKE_PAIRS)

    def test_with_none_on_one_side(self):
        self.assertIs(holds_alike(BEGINS, BEGINS_WIDE, [(0, 0), (1, 1), (None, 2)]), True)
        self.assertIs(holds_alike(BEGINS, BEGINS_WIDE, [(0, 0), (1, 1)]), False)
        self.assertIs(holds_alike(BEGINS_WIDE, BEGINS, [(0, 0), (1, 1), (2, None)]), True)
        self.assertIs(holds_within(BEGINS_WIDE, BEGINS, [(0, 0), (1, 1), (2, None)]), True)
        self.assertIs(holds_within(BEGINS_WIDE, BEGINS, [(0, 0), (1, 1)]), False)
        self.assertIs(holds_within(BEGINS, BEGINS_WIDE, [(0, 0), (1, 1)]), True)
        self.assertIs(holds_within(BEGINS, BEGINS_WIDE, [(0, 0), (1, 1), (None, 2)]), False)
        self.assertIs(holds_alike(BEGINS, BEGINS, [(0, 0), (1, 1), (None, 1)]), False)
        self.assertIs(holds_within(BEGINS, BEGINS, [(0, 0), (1, 1), (1, None)]), False)

    def test_with_none_and_none(self):
        pairs = [(None, None)] + ALIKE_PAIRS
        self.assertIs(holds_alike(ENDS, ENDS_WIDE, pairs), True)
        self.assertIs(holds_alike(ENDS, ENDS_WIDE, pairs + pairs), True)
        self.assertIs(holds_within(ENDS, ENDS_WIDE, pairs), False)
        self.no(NONE, NONE, [(None, None)])

    def test_more_pairs_than_are_met(self):
        one, other = ([True, True], [[1, 1], [0, 0]]), ([True, True], [[0, 0], [1, 1]])
        self.yes(one, other, [(0, 0), (1, 0)])
        self.yes(one, other, [(0, 0), (1, 0), (0, 1), (1, 1)])
        self.no(one, other, [(0, 0), (1, 0), (0, 1)])

    def test_0_and_0_among_them(self):
        self.no(ENDS, ENDS, [])
        self.no(ALL, ALL, [])
        self.no(ENDS, ENDS_WIDE, ALIKE_PAIRS[1:])
        same = ([True, True], [[1], [1]])
        self.no(same, same, [(1, 1)])
        self.yes(same, same, [(0, 0), (1, 1)])

    def test_one_pair_fewer(self):
        for place in range(4):
            self.no(ENDS, ENDS_WIDE, ALIKE_PAIRS[:place] + ALIKE_PAIRS[place + 1:])

    def test_ends_that_are_unlike(self):
        self.no(ALL, NONE, [(0, 0), (0, None)])
        self.assertIs(holds_alike(NONE, ALL, [(0, 0), (None, 0)]), False)
        self.assertIs(holds_within(NONE, ALL, [(0, 0)]), True)

    def test_things_that_are_no_pairs(self):
        for wrong in anything() + [[0, 0], (0,), (0, 0, 0), (True, 0), (0, True), (False, False), (0, False), (2, 0),
                                   (0, 4), (-1, 0), (0, -1), (10 ** 79, 0), (0, 10 ** 79), ("0", 0), (0, "0"), ([0], 0),
                                   (0, [0]), ((0,), 0), (0, (0, 0)), "00", {0: 0}, ([], {}), ({}, [])]:
            if isinstance(wrong, tuple) and wrong == (0, 0) and not any(isinstance(part, bool) for part in wrong):
                continue
            self.no(ENDS, ENDS_WIDE, ALIKE_PAIRS + [wrong])
            self.no(ENDS, ENDS_WIDE, [wrong] + ALIKE_PAIRS)
            self.no(ALL, ALL, [(0, 0), wrong])

    def test_truths_in_the_place_of_numbers(self):
        self.no(ALL, ALL, [(False, False)])
        self.no(ALL, ALL, [(0, False)])
        self.no(ENDS, ENDS, [(0, 0), (True, True)])
        self.no(ENDS, ENDS, [(0, 0), (1, True)])
        self.yes(ENDS, ENDS, [(0, 0), (1, 1)])

    def test_lists_and_tuples(self):
        self.no(ENDS, ENDS_WIDE, tuple(ALIKE_PAIRS))
        self.no(ENDS, ENDS_WIDE, dict.fromkeys(ALIKE_PAIRS))
        self.no(ENDS, ENDS_WIDE, set(ALIKE_PAIRS))
        self.no(ENDS, ENDS_WIDE, [list(pair) for pair in ALIKE_PAIRS])
        self.no(ENDS, ENDS_WIDE, [ALIKE_PAIRS])
        self.no(ENDS, ENDS_WIDE, ("alike", ALIKE_PAIRS))
        for place in range(4):
            pairs = list(ALIKE_PAIRS)
            pairs[place] = list(pairs[place])
            self.no(ENDS, ENDS_WIDE, pairs)

    def test_of_anything(self):
        for one, other in ((ENDS, ENDS_WIDE), (ALL, ALL), (NONE, NONE)):
            for thing in anything():
                self.no(one, other, thing)
                if thing != (0, 0):
                    self.no(one, other, [thing])
        self.no(ALL, ALL, [(0, 0), deep(lambda thing: (0, thing), 0, 29)])
        self.no(ALL, ALL, deep(lambda thing: [(0, 0), thing], (0, 0), 28))

    def test_the_sides_are_not_the_same(self):
        self.no(ENDS_WIDE, ENDS, ALIKE_PAIRS)
        self.yes(ENDS_WIDE, ENDS, [(t, s) for s, t in ALIKE_PAIRS])


class OwnTest(unittest.TestCase):
    def test_what_was_told_may_be_changed(self):
        for ask, one, other in ((compared, ENDS, ENDS_WIDE), (compared, ENDS, BEGINS), (within, ENDS, ALL),
                                (within, ENDS, BEGINS)):
            told = ask(one, other)
            expected = copy.deepcopy(told)
            told[1].append(9)
            told[1][0] = None
            self.assertEqual(ask(one, other), expected)

    def test_what_is_handed_in_stays(self):
        pairs = [(None, None)] + ALIKE_PAIRS[::-1] * 2
        before = copy.deepcopy((ENDS, ENDS_WIDE, pairs))
        compared(ENDS, ENDS_WIDE)
        within(ENDS, ENDS_WIDE)
        holds_alike(ENDS, ENDS_WIDE, pairs)
        holds_within(ENDS, ENDS_WIDE, pairs)
        self.assertEqual((ENDS, ENDS_WIDE, pairs), before)


def parting_length(one, other):
    """The first length at which the one ring is at its last stand and the other one is, too."""
    return next(length for length in itertools.count() if length % one == one - 1 and length % other == other - 1)


if __name__ == "__main__":
    unittest.main()
