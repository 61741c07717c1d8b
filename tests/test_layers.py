import copy
import itertools
import unittest

from tests.anything import anything, deep
from tests.samples import (
    all_machines, chain, cycle, few_machines, let, rows_let_from, some_machines, walked, with_stands,
)
from wordrules.joins import both
from wordrules.layers import holds_shortest, shortest
from wordrules.making import machine_of

# The first row is 1 0 0: 0 leads by 0 to a stand that isn't alive, and there are others as long.
ROW = ([False, False, False, False, True], [[1, 2], [1, None], [3, 3], [4, 4], [0, None]])
NONE = ([False, False, False, True], [[2, None], [0, 1], [1, 0], [3, 0]])


def plain_layers(machine, most):
    """For each length up to most the stands to which just rows of so many numbers lead, and no shorter one."""
    signs = range(len(machine[1][0]))
    seen, found = set(), []
    for length in range(most + 1):
        there = {walked(machine, 0, row) for row in itertools.product(signs, repeat=length)} - {None}
        found.append(sorted(there - seen))
        seen |= there
    return found


class ShortestTest(unittest.TestCase):
    def assert_shortest(self, machine):
        stands = len(machine[0])
        expected = plain_layers(machine, stands)
        first = next((rows[0] for rows in (rows_let_from(machine, 0, length) for length in range(stands)) if rows), None)
        told = shortest(machine)
        self.assertIs(type(told), tuple)
        if first is None:
            self.assertEqual(told, ("none", [layer for layer in expected if layer]))
        else:
            self.assertEqual(told, ("row", first, expected[:len(first) + 1]))
        self.assertIs(holds_shortest(machine, told), True)

    def test_told_as_they_are(self):
        self.assertEqual(shortest(ROW), ("row", [1, 0, 0], [[0], [1, 2], [3], [4]]))
        self.assertEqual(shortest(NONE), ("none", [[0], [2], [1]]))

    def test_where_0_is_an_end(self):
        self.assertEqual(shortest(([True], [[0]])), ("row", [], [[0]]))
        self.assertEqual(shortest(([True, True], [[1, 0], [0, 1]])), ("row", [], [[0]]))

    def test_where_none_is_let(self):
        self.assertEqual(shortest(([False], [[None]])), ("none", [[0]]))
        self.assertEqual(shortest(([False], [[0]])), ("none", [[0]]))
        self.assertEqual(shortest(([False, True], [[0], [0]])), ("none", [[0]]))
        self.assertEqual(shortest(([False] * 3, [[2, 1], [None, 0], [2, 2]])), ("none", [[0], [1, 2]]))

    def test_the_first_among_the_shortest(self):
        # By 0 one comes to the stand of the greater number, and both lead to the end.
        self.assertEqual(shortest(([False, False, False, True], [[2, 1], [3, 3], [None, 3], [0, 0]])),
                         ("row", [0, 1], [[0], [1, 2], [3]]))
        # Of two ends that are as near the one with the greater number is met by the first row.
        self.assertEqual(shortest(([False, False, False, True, True], [[2, 1], [3, 3], [4, None], [0, 0], [0, 0]])),
                         ("row", [0, 0], [[0], [1, 2], [3, 4]]))

    def test_layers_rise_and_each_stand_is_in_one_list(self):
        for machine in some_machines(101, 80, 30, 4):
            told = shortest(machine)
            stands = [stand for layer in told[-1] for stand in layer]
            self.assertEqual(len(set(stands)), len(stands))
            for layer in told[-1]:
                self.assertEqual(layer, sorted(layer))
            self.assertIs(holds_shortest(machine, told), True)

    def test_small_machines(self):
        for machine in few_machines() + list(all_machines(1, 3)):
            self.assert_shortest(machine)

    def test_both_are_met_with(self):
        heads = [shortest(machine)[0] for machine in few_machines()]
        for head in ("row", "none"):
            self.assertGreater(heads.count(head), 20)

    def test_thirty_stands(self):
        for many in (1, 12):
            self.assertEqual(shortest(chain(30, many)), ("row", [0] * 29, [[stand] for stand in range(30)]))
            self.assertEqual(shortest(with_stands(chain(30, many), 99)), shortest(chain(30, many)))

    def test_long_chains_and_rings_for_one_sign(self):
        for stands in (100, 1000):
            layers = [[stand] for stand in range(stands)]
            self.assertEqual(shortest(chain(stands)), ("row", [0] * (stands - 1), layers))
            self.assertEqual(shortest(cycle(stands)), ("row", [], [[0]]))
            ring = cycle(stands)[1]
            self.assertEqual(shortest(([False] * stands, ring)), ("none", layers))
            self.assertEqual(shortest(([stand == stands - 1 for stand in range(stands)], ring)),
                             ("row", [0] * (stands - 1), layers))
            for machine in (chain(stands), ([False] * stands, ring)):
                self.assertIs(holds_shortest(machine, shortest(machine)), True)

    def test_of_told_machines(self):
        told = both(cycle(49, 12), ([False] * 47 + [True], cycle(48, 12)[1]))
        self.assertEqual(len(shortest(told)[1]), 49 * 47)
        machine = machine_of((("ab", "01"), (("long", 3, None), ("ends", "0"), ("least", 0, 1))))
        self.assertEqual(shortest(machine)[1], [0, 0, 2])
        self.assertIs(holds_shortest(machine, shortest(machine)), True)

    def test_own(self):
        for machine in (ROW, NONE):
            before = copy.deepcopy(machine)
            told = shortest(machine)
            expected = copy.deepcopy(told)
            told[1].append(9)
            told[-1][0].append(9)
            told[-1].append([])
            self.assertEqual(shortest(machine), expected)
            self.assertEqual(machine, before)


def is_let_by(machine, thing):
    """Point 20 word by word, of things of the right forms with numbers in the right bounds."""
    ends, goes = machine
    layers = thing[-1]
    if not layers or 0 not in layers[0]:
        return False
    for number, layer in enumerate(layers):
        if number < len(layers) - 1 or thing[0] == "none":
            there = {stand for near in layers[:number + 2] for stand in near} | {None}
            if any(ends[stand] or not set(goes[stand]) <= there for stand in layer):
                return False
    return thing[0] == "none" or (len(thing[1]) == len(layers) - 1 and let(machine, thing[1]))


class HoldsShortestTest(unittest.TestCase):
    def yes(self, machine, thing):
        self.assertIs(holds_shortest(machine, thing), True, thing)

    def no(self, machine, thing):
        self.assertIs(holds_shortest(machine, thing), False)

    def test_small_things_of_each_form(self):
        machines = list(all_machines(1, 2)) + list(all_machines(2, 2))[::11] + list(some_machines(102, 25, 3, 2))
        for machine in machines:
            stands, signs = range(len(machine[0])), range(len(machine[1][0]))
            layer = [list(row) for many in range(len(stands) + 1) for row in itertools.combinations(stands, many)]
            rows = [list(row) for many in range(4) for row in itertools.product(signs, repeat=many)]
            for many in range(4):
                for layers in itertools.product(layer, repeat=many):
                    self.compare(machine, ("none", list(layers)))
                    for row in rows:
                        if len(row) == many - 1 or many < 2:
                            self.compare(machine, ("row", row, list(layers)))

    def compare(self, machine, thing):
        fits = holds_shortest(machine, thing)
        self.assertIs(fits, bool(is_let_by(machine, thing)), (machine, thing))
        if fits and thing[0] == "none":
            self.assertEqual(shortest(machine)[0], "none")
        elif fits:
            self.assertEqual(len(shortest(machine)[1]), len(thing[1]))

    def test_stands_in_any_order_twice_and_in_empty_lists(self):
        self.yes(ROW, ("row", [1, 0, 0], [[0], [2, 1, 2], [3, 0, 1], [4, 4, 0]]))
        self.yes(ROW, ("row", [1, 0, 0], [[0, 0], [2, 1], [3], [3, 2, 4, 1, 0]]))
        self.yes(ROW, ("row", [1, 0, 0], [[0, 1], [2], [3], [4]]))
        self.no(ROW, ("row", [1, 0, 0], [[0], [2, 1], [3], []]))
        self.yes(NONE, ("none", [[0], [2], [1], [], [], [0, 1]]))
        self.yes(NONE, ("none", [[0, 1, 2]]))
        self.yes(NONE, ("none", [[0, 1, 2, 0], []]))
        self.no(NONE, ("none", [[0], [], [2], [1]]))
        self.no(NONE, ("none", [[0], [2], [], [1]]))

    def test_a_stand_is_held_by_the_first_list_that_it_is_in(self):
        machine = ([False] * 3, [[1], [2], [0]])
        self.yes(machine, ("none", [[0], [1], [2]]))
        self.yes(machine, ("none", [[0, 2], [1], []]))
        self.yes(machine, ("none", [[0], [1], [2, 1, 0]]))
        self.no(machine, ("none", [[0, 1], [], [2, 1]]))

    def test_a_row_that_is_not_the_first_one(self):
        self.yes(ROW, ("row", [1, 1, 1], [[0], [1, 2], [3], [4]]))

    def test_where_the_row_ends_is_not_looked_at(self):
        # It ends in the last list of itself: no stand of the lists leads out of them, and no other list has an end.
        self.yes(ROW, ("row", [1, 1, 0], [[0], [1, 2], [3], [0, 4]]))
        two_ends = ([False, True, True], [[1, 2], [None, None], [None, None]])
        self.yes(two_ends, ("row", [1], [[0], [1, 2]]))
        self.no(two_ends, ("row", [1], [[0], [1]]))
        self.no(two_ends, ("row", [0], [[0], [1]]))

    def test_a_row_that_is_not_let(self):
        for row in ([0, 0, 0], [1, 0], [1, 0, 0, 0], [], [1, 0, 2]):
            self.no(ROW, ("row", row, [[0], [1, 2], [3], [4]]))

    def test_a_longer_row_than_the_shortest(self):
        self.no(ROW, ("row", [1, 0, 0, 0, 1, 0, 0], [[0], [1, 2], [3], [4], [0], [], [], []]))
        self.no(ROW, ("row", [1, 0, 0, 0, 1, 0, 0], [[0], [1, 2], [3], [], [], [], [], []]))

    def test_an_end_in_a_list(self):
        self.no(ROW, ("row", [1, 0, 0], [[0], [1, 2], [3, 4], [4]]))
        self.no(ROW, ("row", [1, 0, 0], [[0, 4], [1, 2], [3], [4]]))
        self.no(NONE, ("none", [[0], [2], [1, 3]]))
        self.no(([True], [[0]]), ("none", [[0]]))

    def test_a_list_that_leads_further(self):
        self.no(ROW, ("row", [1, 0, 0], [[0], [2], [3], [4]]))
        self.no(ROW, ("row", [1, 0, 0], [[0], [1, 2], [], [4]]))
        self.no(ROW, ("row", [1, 0, 0], [[0], [1, 2, 3], [], [4]]))
        self.no(NONE, ("none", [[0], [2]]))
        self.no(NONE, ("none", [[0]]))

    def test_0_in_the_first_list(self):
        self.no(ROW, ("row", [1, 0, 0], [[], [1, 2], [3], [4]]))
        self.no(ROW, ("row", [1, 0, 0], [[1], [0, 2], [3], [4]]))
        self.no(NONE, ("none", [[], [0, 1, 2]]))
        self.no(NONE, ("none", [[]]))
        self.no(NONE, ("none", []))
        self.no(([True], [[0]]), ("row", [], []))
        self.no(([True], [[0]]), ("row", [], [[]]))

    def test_numbers_that_are_none(self):
        for wrong in (True, False, 5, -1, 10 ** 79, None, "0", [0], (0,), {}, []):
            self.no(ROW, ("row", [1, 0, 0], [[0, wrong], [1, 2], [3], [4]]))
            self.no(ROW, ("row", [1, 0, 0], [[0], [wrong, 2], [3], [4]]))
            self.no(ROW, ("row", [1, 0, 0], [[0], [1, 2], [3], [4, wrong]]))
            self.no(NONE, ("none", [[0], [2], [1, wrong]]))
            self.no(NONE, ("none", [[wrong], [2], [1]]))
        for wrong in (True, False, 2, -1, 10 ** 79, None, "0", [0], (0,), {}, []):
            for place in range(3):
                row = [1, 0, 0]
                row[place] = wrong
                self.no(ROW, ("row", row, [[0], [1, 2], [3], [4]]))

    def test_lists_and_tuples(self):
        for machine in (ROW, NONE):
            told = shortest(machine)
            self.no(machine, list(told))
            self.no(machine, told[:-1] + (tuple(told[-1]),))
            self.no(machine, told[:-1] + (dict(enumerate(told[-1])),))
            for place in range(len(told[-1])):
                layers = copy.deepcopy(told[-1])
                layers[place] = tuple(layers[place])
                self.no(machine, told[:-1] + (layers,))
                for wrong in (None, 0, {0: 0}, "", [[0]]):
                    layers[place] = wrong
                    self.no(machine, told[:-1] + (layers,))
        self.no(ROW, ("row", (1, 0, 0), [[0], [1, 2], [3], [4]]))
        self.no(ROW, ("row", {1: 1, 0: 0}, [[0], [1, 2], [3]]))

    def test_one_thing_more_or_fewer(self):
        for machine in (ROW, NONE):
            told = shortest(machine)
            self.no(machine, told[:-1])
            self.no(machine, told[1:])
            for more in (None, [], [[0]], 0):
                self.no(machine, told + (more,))
        self.no(ROW, ("row", [1, 0, 0], [[0], [1, 2], [3]]))
        self.no(ROW, ("row", [1, 0, 0], [[0], [1, 2], [3], [4], []]))
        self.no(ROW, ("row", [[0], [1, 2], [3], [4]]))
        self.no(NONE, ("none", [], [[0], [2], [1]]))

    def test_heads(self):
        for machine in (ROW, NONE):
            told = shortest(machine)
            for head in ("", "Row", "row ", "row", "none", "last", None, 0, True, ["row"], ("none",), b"row"):
                self.assertIs(holds_shortest(machine, (head,) + told[1:]), isinstance(head, str) and head == told[0])

    def test_of_another_machine(self):
        self.no(NONE, shortest(ROW))
        self.no(ROW, shortest(NONE))

    def test_eight_stands(self):
        for machine in some_machines(103, 60, 8, 12):
            self.yes(machine, shortest(machine))

    def test_of_anything(self):
        for machine in (ROW, NONE, ([True], [[0]]), ([False], [[None]])):
            for thing in anything():
                self.no(machine, thing)
                self.no(machine, ("none", thing))
                self.no(machine, ("none", [[0], thing, 0]))
                self.no(machine, ("row", [], thing))
                self.no(machine, (thing, [[0]]))
                self.no(machine, (thing, [], [[0]]))
                if not isinstance(thing, list):
                    self.no(machine, ("none", [[0, 1, 2], thing]))
                    self.no(machine, ("row", thing, [[0]]))
                if type(thing) is not int:
                    self.no(machine, ("none", [[thing]]))
                    self.no(machine, ("none", [[0, 1, 2, thing]]))
        self.no(NONE, ("none", deep(lambda thing: [[0, 1, 2], thing], [0], 27)))

    def test_what_is_handed_in_stays(self):
        for machine, thing in ((ROW, ("row", [1, 0, 0], [[0], [2, 1, 2], [3], [4]])), (NONE, ("none", [[2, 0, 1, 0]]))):
            before = copy.deepcopy((machine, thing))
            self.yes(machine, thing)
            self.assertEqual((machine, thing), before)


if __name__ == "__main__":
    unittest.main()
