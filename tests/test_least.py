import copy
import unittest

from tests.samples import (
    alike_stands, alive_stands, all_machines, chain, cycle, first_met_order, let_the_same, met_stands, some_machines,
    with_stands,
)
from wordrules.least import least
from wordrules.machines import is_machine


class LeastTest(unittest.TestCase):
    def assert_least(self, machine):
        told = least(machine)
        self.assertIs(is_machine(len(machine[1][0]), told), True)
        self.assertTrue(let_the_same(machine, told), machine)
        stands = list(range(len(told[0])))
        if True not in told[0]:
            self.assertEqual(told, ([False], [[None] * len(machine[1][0])]))
            return
        self.assertEqual(met_stands(told), stands)
        self.assertEqual(alive_stands(told), stands)
        self.assertEqual(alike_stands(told), [])
        self.assertEqual(first_met_order(told), stands)

    def test_where_no_row_is_let(self):
        self.assertEqual(least(([False], [[None]])), ([False], [[None]]))
        self.assertEqual(least(([False], [[0, 0, 0]])), ([False], [[None, None, None]]))
        self.assertEqual(least(([False, False], [[1, 0], [0, 1]])), ([False], [[None, None]]))
        self.assertEqual(least(([False, True], [[0, None], [0, 1]])), ([False], [[None, None]]))

    def test_stand_zero_alone(self):
        self.assertEqual(least(([True], [[None]])), ([True], [[None]]))
        self.assertEqual(least(([True], [[0, None]])), ([True], [[0, None]]))
        self.assertEqual(least(([True, True], [[1, 0], [0, 1]])), ([True], [[0, 0]]))
        self.assertEqual(least(([True, False], [[1, 0], [1, 1]])), ([True], [[None, 0]]))

    def test_what_is_not_alive_or_not_met_goes(self):
        machine = ([False, True, False, True], [[1, 2], [1, None], [2, 2], [0, 3]])
        self.assertEqual(least(machine), ([False, True], [[1, None], [1, None]]))

    def test_a_missing_way_is_unlike_a_way_to_what_is_alive(self):
        machine = ([True, True], [[1], [None]])
        self.assertEqual(least(machine), machine)
        machine = ([True, True, True], [[1, 2], [1, None], [None, 2]])
        self.assertEqual(least(machine), machine)

    def test_stands_alike_are_one(self):
        machine = ([False, False, False, True, True], [[1, 2], [3, None], [4, None], [None, None], [None, None]])
        self.assertEqual(least(machine), ([False, False, True], [[1, 1], [2, None], [None, None]]))

    def test_numbers_as_first_met(self):
        machine = ([False, True, False, False], [[3, 2], [None, None], [None, 1], [2, 3]])
        self.assertEqual(least(machine), ([False, False, False, True], [[1, 2], [2, 1], [None, 3], [None, None]]))
        machine = ([False, False, True, False], [[None, 3], [2, 0], [2, 2], [1, 3]])
        self.assertEqual(least(machine), ([False, False, False, True], [[None, 1], [2, 1], [3, 0], [3, 3]]))

    def test_all_small_machines(self):
        for many, stands in ((1, 1), (2, 1), (3, 1), (1, 2), (2, 2), (1, 3)):
            for machine in all_machines(many, stands):
                self.assert_least(machine)

    def test_some_machines(self):
        for machine in some_machines(21, 300, 9):
            self.assert_least(machine)
        for machine in some_machines(22, 20, 24, 12):
            self.assert_least(machine)

    def test_so_there_is_just_one(self):
        for machine in some_machines(23, 200, 8):
            told = least(machine)
            self.assertEqual(least(told), told)
            twice = doubled(machine)
            self.assertEqual(least(twice), told)

    def test_ninety_stands(self):
        for many in (1, 2, 12):
            self.assertEqual(least(cycle(90, many)), cycle(90, many))
            self.assertEqual(least(chain(90, many)), chain(90, many))
            self.assertEqual(least(with_stands(cycle(90, many), 200)), cycle(90, many))
        for machine in some_machines(24, 5, 90, 12):
            self.assert_least(machine)
        halves = ([stand % 45 == 0 for stand in range(90)], cycle(90, 12)[1])
        self.assertEqual(least(halves), cycle(45, 12))

    def test_120_stands_for_one_sign(self):
        self.assertEqual(least(cycle(120)), cycle(120))
        self.assertEqual(least(chain(120)), chain(120))
        self.assertEqual(least(([True] * 120, cycle(120)[1])), ([True], [[0]]))

    def test_nothing_handed_in_is_changed(self):
        for machine in some_machines(25, 30, 8):
            before = copy.deepcopy(machine)
            least(machine)
            self.assertEqual(machine, before)

    def test_lists_told_are_the_askers_own(self):
        for machine in (cycle(3, 2), ([True], [[None, None]]), ([False, True], [[None, None], [0, 1]])):
            told = least(machine)
            expected = copy.deepcopy(told)
            told[0].append(True)
            told[1][0][0] = 7
            told[1].append([])
            self.assertEqual(least(machine), expected)
            self.assertTrue(is_machine(2, machine))

    def test_no_two_lists_told_are_one(self):
        told = least(([True, False, False], [[1, 1], [2, 2], [0, 0]]))
        told[1][0][0] = None
        self.assertEqual(told[1][1:], [[2, 2], [0, 0]])


def doubled(machine):
    """The same rows, each stand standing twice, in another order of numbers."""
    stands = len(machine[0])
    goes = []
    for copied in range(2):
        for ways in machine[1]:
            goes.append([there if there is None else there + stands * ((sign + copied + 1) % 2)
                         for sign, there in enumerate(ways)])
    return (machine[0] * 2, goes)


if __name__ == "__main__":
    unittest.main()
