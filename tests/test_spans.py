import copy
import itertools
import unittest

from tests.anything import anything, deep
from tests.samples import (
    alive_stands, all_machines, chain, cycle, ends_at, few_machines, met_stands, rows_let_from, some_machines, walked,
    with_stands,
)
from wordrules.joins import both
from wordrules.machines import lets
from wordrules.making import machine_of
from wordrules.spans import holds_span, span

NONE = ([False, False, True], [[1, None], [0, 1], [0, 2]])
# 0 leads to 1 and 2, 1 to 2; 3 is met but not alive; 4 is never met.
LAST = ([False, False, True, False, True], [[1, 2], [2, 3], [None, None], [3, None], [0, 4]])
# Rows 0, then 1 twice any number of times, then 0.
ENDLESS = ([False, False, False, True], [[1, None], [3, 2], [None, 1], [None, None]])


def lines_of_one_sign(stands):
    """Long chains and rings for one sign, some with a tail ahead, some without an end."""
    ring = cycle(stands)
    tail = ([stand == 2 for stand in range(stands)], [[stand + 1 if stand + 1 < stands else stands // 2]
                                                      for stand in range(stands)])
    in_ring = ([stand == stands - 1 for stand in range(stands)], tail[1])
    return [chain(stands), ring, ([False] * stands, ring[1]), tail, in_ring, ([True] * stands, chain(stands)[1])]


class SpanTest(unittest.TestCase):
    def assert_span(self, machine, most):
        """Holds what is told against what point 16 says of it; rows are gone through up to most numbers."""
        told = span(machine)
        self.assertIs(type(told), tuple)
        met, alive = met_stands(machine), alive_stands(machine)
        let = [length for length in range(most + 1) if rows_let_from(machine, 0, length)]
        if told[0] == "none":
            self.assertEqual(told, ("none", met))
            self.assertNotIn(0, alive)
            self.assertEqual(let, [])
        elif told[0] == "last":
            self.assertEqual(len(told), 2)
            for stand, rank in enumerate(told[1]):
                expected = None
                if stand in met and stand in alive:
                    expected = max(length for length in range(most + 1) if rows_let_from(machine, stand, length))
                self.assertEqual(rank, expected)
            self.assertEqual(len(told[1]), len(machine[0]))
            self.assertEqual(max(let), told[1][0])
        else:
            self.assert_endless(machine, told)
        self.assertIs(holds_span(machine, told), True)
        return told

    def assert_endless(self, machine, told):
        head, ahead, again, behind = told
        self.assertEqual(head, "endless")
        for row in (ahead, again, behind):
            self.assertIs(type(row), list)
            self.assertLessEqual(len(row), len(machine[0]))
            self.assertTrue(all(type(sign) is int and 0 <= sign < len(machine[1][0]) for sign in row))
        self.assertNotEqual(again, [])
        here = walked(machine, 0, ahead)
        self.assertIsNotNone(here)
        self.assertEqual(walked(machine, here, again), here)
        self.assertTrue(ends_at(machine, walked(machine, here, behind)))
        for times in range(4):
            self.assertTrue(lets(machine, ahead + again * times + behind))

    def test_told_as_they_are(self):
        self.assertEqual(span(NONE), ("none", [0, 1]))
        self.assertEqual(span(LAST), ("last", [2, 1, 0, None, None]))
        self.assertEqual(span(ENDLESS), ("endless", [0], [1, 1], [0]))
        self.assertEqual(span(([True], [[None]])), ("last", [0]))
        self.assertEqual(span(([False], [[None]])), ("none", [0]))
        self.assertEqual(span(([True], [[0]])), ("endless", [], [0], []))

    def test_a_ring_that_is_not_alive_or_not_met_is_none(self):
        self.assertEqual(span(([True, False], [[1], [1]])), ("last", [0, None]))
        self.assertEqual(span(([True, True], [[None], [1]])), ("last", [0, None]))
        self.assertEqual(span(([False, True], [[None, None], [1, 1]])), ("none", [0]))

    def test_an_end_that_leads_on(self):
        self.assertEqual(span(([True, True, True], [[1, 2], [2, None], [None, None]])), ("last", [2, 1, 0]))

    def test_small_machines(self):
        for machine in few_machines() + list(all_machines(1, 3)):
            self.assert_span(machine, len(machine[0]) + 1 if len(machine[0]) < 5 else 5)

    def test_all_three_are_met_with(self):
        heads = [span(machine)[0] for machine in few_machines()]
        for head in ("none", "last", "endless"):
            self.assertGreater(heads.count(head), 20)

    def test_thirty_stands(self):
        for machine in some_machines(81, 60, 30, 12):
            told = span(machine)
            self.assertIs(holds_span(machine, told), True)
            if told[0] == "endless":
                self.assert_endless(machine, told)
        self.assertEqual(span(chain(30, 12)), ("last", list(range(29, -1, -1))))
        self.assertEqual(span(with_stands(chain(30, 12), 31)), ("last", list(range(29, -1, -1)) + [None]))
        self.assert_endless(cycle(30, 12), span(cycle(30, 12)))

    def test_long_chains_and_rings_for_one_sign(self):
        for stands in (31, 400, 1000):
            line, ring, no_end, ahead_of_ring, in_ring, all_ends = lines_of_one_sign(stands)
            self.assertEqual(span(line), ("last", list(range(stands - 1, -1, -1))))
            self.assertEqual(span(all_ends), ("last", list(range(stands - 1, -1, -1))))
            self.assertEqual(span(ahead_of_ring), ("last", [2, 1, 0] + [None] * (stands - 3)))
            self.assertEqual(span(no_end), ("none", list(range(stands))))
            for machine in (ring, in_ring):
                told = span(machine)
                self.assert_endless(machine, told)
                self.assertIs(holds_span(machine, told), True)

    def test_of_told_machines(self):
        told = both(cycle(49, 12), cycle(48, 12))
        self.assert_endless(told, span(told))
        machine = machine_of((("ab", "01"), (("long", 2, 30), ("apart",))))
        self.assertEqual(span(machine)[1][0], 30)
        self.assertIs(holds_span(machine, span(machine)), True)
        self.assertEqual(span(machine_of((("ab",), (("begins", "a"), ("begins", "b"))))), ("none", [0]))

    def test_own(self):
        for machine in (NONE, LAST, ENDLESS):
            before = copy.deepcopy(machine)
            told = span(machine)
            expected = copy.deepcopy(told)
            for inner in told[1:]:
                inner.append(7)
                inner[0] = 9
            self.assertEqual(span(machine), expected)
            self.assertEqual(machine, before)


def is_row(thing):
    return isinstance(thing, list) and all(type(number) is int for number in thing)


def is_let_by(machine, thing):
    """Point 17 word by word, of things of the right forms with numbers in the right bounds."""
    ends, goes = machine
    if thing[0] == "none":
        part = thing[1]
        return (len(set(part)) == len(part) and 0 in part
                and all(not ends[stand] and set(goes[stand]) <= set(part) | {None} for stand in part))
    if thing[0] == "last":
        ranks = thing[1]
        if ranks[0] is None:
            return False
        for stand, rank in enumerate(ranks):
            for there in goes[stand]:
                if rank is not None and there is not None and ranks[there] is not None and not ranks[there] < rank:
                    return False
        return all(not ends[stand] and all(there is None or ranks[there] is None for there in goes[stand])
                   for stand in met_stands(machine) if ranks[stand] is None)
    head, ahead, again, behind = thing
    here = walked(machine, 0, ahead)
    return bool(again and here is not None and walked(machine, here, again) == here
                and ends_at(machine, walked(machine, here, behind)))


class HoldsSpanTest(unittest.TestCase):
    def yes(self, machine, thing):
        self.assertIs(holds_span(machine, thing), True, thing)

    def no(self, machine, thing):
        self.assertIs(holds_span(machine, thing), False)

    def test_small_things_of_each_form(self):
        machines = list(all_machines(1, 2)) + list(all_machines(2, 2))[::7] + list(all_machines(1, 3))[::3]
        for machine in machines:
            stands, signs = range(len(machine[0])), range(len(machine[1][0]))
            for many in range(4):
                for part in itertools.product(stands, repeat=many):
                    thing = ("none", list(part))
                    self.assertIs(holds_span(machine, thing), is_let_by(machine, thing))
            for ranks in itertools.product((None, 0, 1, 2, 5), repeat=len(stands)):
                thing = ("last", list(ranks))
                self.assertIs(holds_span(machine, thing), is_let_by(machine, thing))
                if holds_span(machine, thing):
                    self.assertFalse(any(rows_let_from(machine, 0, ranks[0] + more) for more in (1, 2, 3)))
            rows = [list(row) for many in range(3) for row in itertools.product(signs, repeat=many)]
            for ahead, again, behind in itertools.product(rows, repeat=3):
                thing = ("endless", ahead, again, behind)
                self.assertIs(holds_span(machine, thing), is_let_by(machine, thing))

    def test_what_is_let_by_is_so(self):
        for machine in few_machines():
            for row in ([0], [0, 1], [1, 0]):
                if holds_span(machine, ("none", row)):
                    self.assertEqual(span(machine)[0], "none")

    def test_none(self):
        self.yes(NONE, ("none", [1, 0]))
        self.no(NONE, ("none", [0]))
        self.no(NONE, ("none", [1]))
        self.no(NONE, ("none", [0, 1, 0]))
        self.no(NONE, ("none", [0, 1, 2]))
        self.no(NONE, ("none", []))
        more = ([False] * 4, [[1], [0], [3], [2]])
        self.yes(more, ("none", [3, 0, 2, 1]))
        self.yes(more, ("none", [1, 0]))
        self.no(more, ("none", [1, 0, 2]))

    def test_last(self):
        self.yes(LAST, ("last", [9, 5, 0, None, None]))
        self.yes(LAST, ("last", [2, 1, 0, None, None]))
        self.yes(LAST, ("last", [10 ** 79, 10 ** 78, 1, None, None]))
        self.no(LAST, ("last", [2, 2, 0, None, None]))
        self.no(LAST, ("last", [2, 1, 1, None, None]))
        self.no(LAST, ("last", [1, 1, 0, None, None]))
        self.no(LAST, ("last", [None, 1, 0, None, None]))
        self.no(LAST, ("last", [2, None, 0, None, None]))
        self.no(LAST, ("last", [2, 1, None, None, None]))
        self.no(LAST, ("last", [2, 1, 0, 0, None]))
        self.no(LAST, ("last", [2, 1, 0, None, 3]))
        self.no(LAST, ("last", [-1, -2, -3, None, None]))
        self.no(LAST, ("last", [0, -1, -2, None, None]))

    def test_a_stand_that_is_not_met_may_have_none_or_a_number(self):
        machine = ([True, True], [[None], [0]])
        self.yes(machine, ("last", [0, None]))
        self.yes(machine, ("last", [0, 1]))
        self.no(machine, ("last", [0, 0]))
        self.no(machine, ("last", [1, 0]))

    def test_last_where_no_row_is_let(self):
        self.yes(([False], [[None]]), ("last", [0]))
        self.yes(([False, False], [[1], [1]]), ("last", [0, None]))
        self.no(([False, False], [[1], [1]]), ("last", [1, 0]))

    def test_endless(self):
        self.yes(ENDLESS, ("endless", [0, 1], [1, 1], [1, 0]))
        self.yes(ENDLESS, ("endless", [0], [1] * 1000, [1, 1, 0]))
        self.no(ENDLESS, ("endless", [0], [1], [0]))
        self.no(ENDLESS, ("endless", [0], [], [0]))
        self.no(ENDLESS, ("endless", [], [], [0, 0]))
        self.no(ENDLESS, ("endless", [1], [1, 1], [0]))
        self.no(ENDLESS, ("endless", [1], [1], [0]))
        self.no(ENDLESS, ("endless", [0], [1, 1], []))
        self.no(ENDLESS, ("endless", [0], [1, 1], [1]))
        self.no(ENDLESS, ("endless", [0], [1, 1], [0, 0]))

    def test_from_none_to_none_is_no_stand(self):
        machine = ([True], [[None]])
        self.no(machine, ("endless", [0], [0], []))
        self.no(machine, ("endless", [], [0], []))

    def test_numbers_that_are_none(self):
        for wrong in (True, False, 2, -1, 10 ** 79, None, "0", "", [0], (0,), {}, [], b"0"):
            self.no(ENDLESS, ("endless", [wrong], [1, 1], [0]))
            self.no(ENDLESS, ("endless", [0], [wrong, 1], [0]))
            self.no(ENDLESS, ("endless", [0], [1, 1], [wrong]))
            self.no(ENDLESS, ("endless", [0], [1, 1, 1, wrong], [0]))
        for wrong in (True, False, 3, -1, 10 ** 79, None, "0", [0], (0,), {}):
            self.no(NONE, ("none", [0, 1, wrong]))
            self.no(NONE, ("none", [0, wrong]))
            self.no(NONE, ("none", [wrong, 1]))
        for place in range(5):
            for wrong in (True, False, -1, -(10 ** 79), "0", "", [0], (0,), {}, [None]):
                ranks = [2, 1, 0, None, None]
                ranks[place] = wrong
                self.no(LAST, ("last", ranks))

    def test_lists_and_tuples(self):
        for machine in (NONE, LAST, ENDLESS):
            told = span(machine)
            self.yes(machine, told)
            self.no(machine, list(told))
            self.no(machine, (told,))
            for place in range(1, len(told)):
                changed = list(told)
                changed[place] = tuple(told[place])
                self.no(machine, tuple(changed))
                changed[place] = dict.fromkeys(told[place])
                self.no(machine, tuple(changed))
                changed[place] = [told[place]]
                self.no(machine, tuple(changed))

    def test_one_thing_more_or_fewer(self):
        for machine in (NONE, LAST, ENDLESS):
            told = span(machine)
            self.no(machine, told[:-1])
            self.no(machine, told[1:])
            for more in (None, [], [0], 0, True):
                self.no(machine, told + (more,))
        self.no(LAST, ("last", [2, 1, 0, None]))
        self.no(LAST, ("last", [2, 1, 0, None, None, None]))
        self.no(LAST, ("last", []))

    def test_heads(self):
        for machine in (NONE, LAST, ENDLESS):
            told = span(machine)
            for head in ("", "None", "none ", "first", "last", "none", "endless", None, True, 0, ["none"], ("none",),
                         b"none", [told[0]]):
                self.assertIs(holds_span(machine, (head,) + told[1:]), isinstance(head, str) and head == told[0])

    def test_of_the_other_kind_of_machine(self):
        for one, other in itertools.permutations((NONE, LAST, ENDLESS), 2):
            self.no(one, span(other))

    def test_of_anything(self):
        for machine in (NONE, LAST, ENDLESS, ([True], [[0]]), ([False], [[None]])):
            for thing in anything():
                self.no(machine, thing)
                self.no(machine, (thing, [0]))
                for head in ("none", "last", "endless"):
                    self.no(machine, (head,))
                    if not is_row(thing):
                        self.no(machine, (head, thing))
                        self.no(machine, (head, [], thing, []))
                        self.no(machine, (head, thing, [0], []))
                        self.no(machine, (head, [], [0], thing))
                    if type(thing) is not int:
                        self.no(machine, (head, [thing]))
                        self.no(machine, (head, [0, thing]))
        self.no(NONE, ("none", deep(lambda thing: [0, thing], [0, 1], 28)))

    def test_what_is_handed_in_stays(self):
        for machine in (NONE, LAST, ENDLESS):
            thing = span(machine)
            before = copy.deepcopy((machine, thing))
            holds_span(machine, thing)
            self.assertEqual((machine, thing), before)


if __name__ == "__main__":
    unittest.main()
