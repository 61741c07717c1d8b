import copy
import unittest

from tests.samples import all_machines, chain, cycle, let, rows_up_to, some_machines, with_stands
from wordrules.errors import TooMuch, WordError
from wordrules.joins import both, either, opposite
from wordrules.least import least
from wordrules.machines import lets

NONE = ([False], [[None, None]])
ALL = ([True], [[0, 0]])
EMPTY_ROW = ([True], [[None, None]])
# Rows that end with 0, and rows that begin with 1.
ENDS = ([False, True], [[1, 0], [1, 0]])
BEGINS = ([False, True], [[None, 1], [1, 1]])


def pairs_of_samples(seed, times, most_stands):
    by_signs = {}
    for machine in some_machines(seed, times, most_stands):
        by_signs.setdefault(len(machine[1][0]), []).append(machine)
    return [pair for machines in by_signs.values() for pair in zip(machines, machines[1:])]


class JoinsTest(unittest.TestCase):
    def test_ordinary(self):
        self.assertEqual(both(ENDS, BEGINS), ([False, False, True], [[None, 1], [2, 1], [2, 1]]))
        self.assertEqual(either(ENDS, BEGINS), ([False, True, True, False], [[1, 2], [1, 3], [2, 2], [1, 3]]))
        self.assertEqual(opposite(BEGINS), ([True, True], [[1, None], [1, 1]]))
        self.assertEqual(opposite(ENDS), ([True, False], [[1, 0], [1, 0]]))

    def test_none_and_all(self):
        self.assertEqual(opposite(NONE), ALL)
        self.assertEqual(opposite(ALL), NONE)
        self.assertEqual(opposite(EMPTY_ROW), ([False, True], [[1, 1], [1, 1]]))
        for machine in (NONE, ALL, EMPTY_ROW, ENDS, BEGINS):
            self.assertEqual(both(machine, NONE), NONE)
            self.assertEqual(both(NONE, machine), NONE)
            self.assertEqual(both(machine, ALL), machine)
            self.assertEqual(either(machine, ALL), ALL)
            self.assertEqual(either(NONE, machine), machine)
            self.assertEqual(both(machine, opposite(machine)), NONE)
            self.assertEqual(either(machine, opposite(machine)), ALL)
            self.assertEqual(opposite(opposite(machine)), machine)

    def assert_joined(self, one, other, most):
        many = len(one[1][0])
        told = (both(one, other), either(one, other), opposite(one))
        for machine in told:
            self.assertEqual(least(machine), machine)
        for row in rows_up_to(many, most):
            here, there = let(one, row), let(other, row)
            self.assertEqual([lets(machine, row) for machine in told], [here and there, here or there, not here])

    def test_rows_let_small(self):
        machines = list(all_machines(1, 2)) + [([True], [[None]]), ([False], [[0]])]
        for one in machines:
            for other in machines:
                self.assert_joined(one, other, 7)

    def test_rows_let_samples(self):
        for one, other in pairs_of_samples(31, 150, 5):
            self.assert_joined(one, other, 5)
        for one, other in pairs_of_samples(32, 20, 18):
            self.assert_joined(one, other, 6)

    def test_rows_of_many_signs(self):
        one, other = cycle(2, 12), cycle(3, 12)
        self.assertEqual(both(one, other), cycle(6, 12))
        self.assertEqual(either(one, other)[0], [True, False, True, True, True, False])
        self.assertEqual(opposite(one), ([False, True], cycle(2, 12)[1]))

    def test_what_is_told_may_have_more_stands(self):
        self.assertEqual(both(cycle(17, 2), cycle(18, 2)), cycle(17 * 18, 2))
        told = both(cycle(49, 12), cycle(48, 12))
        self.assertEqual(told, cycle(49 * 48, 12))
        self.assertEqual(least(told), told)
        self.assertEqual(opposite(opposite(told)), told)

    def refused(self, one, other):
        for join in (both, either):
            with self.assertRaises(TooMuch) as caught:
                join(one, other)
            self.assertIs(type(caught.exception), TooMuch)
            self.assertIsInstance(caught.exception, WordError)
            self.assertIsInstance(caught.exception, ValueError)

    def test_too_much(self):
        self.assertEqual(both(cycle(49), cycle(49)), cycle(49))
        self.assertEqual(either(cycle(49), cycle(49)), cycle(49))
        self.refused(cycle(49), cycle(50))
        self.refused(cycle(50), cycle(49))
        # 25 x 100 is 2,500, 41 x 61 is 2,501, 2 x 1,250 is 2,500, 3 x 834 is 2,502.
        self.assertEqual(both(chain(24), chain(24 + 75)), ([False], [[None]]))
        self.refused(chain(40), chain(60))
        self.refused(chain(60), chain(40))
        self.assertEqual(both(([True], [[0]]), chain(1249)), chain(1249))
        self.refused(([True], [[0]]), chain(1250))
        self.refused(([True, True], [[0], [0]]), chain(833))

    def test_too_much_by_stands_as_they_are_handed_in(self):
        wide = with_stands(ENDS, 49)
        self.assertEqual(both(wide, with_stands(BEGINS, 49)), both(ENDS, BEGINS))
        self.assertEqual(either(wide, with_stands(BEGINS, 49)), either(ENDS, BEGINS))
        self.refused(wide, with_stands(BEGINS, 50))
        self.refused(with_stands(NONE, 50), with_stands(NONE, 49))
        self.refused(NONE, with_stands(NONE, 1250))

    def test_the_opposite_is_never_refused(self):
        self.assertEqual(opposite(with_stands(ENDS, 1000)), opposite(ENDS))

    def test_nothing_handed_in_is_changed(self):
        for one, other in pairs_of_samples(33, 20, 6):
            before = copy.deepcopy((one, other))
            both(one, other)
            either(one, other)
            opposite(one)
            self.assertEqual((one, other), before)

    def test_lists_told_are_the_askers_own(self):
        for join in (lambda: both(ENDS, BEGINS), lambda: either(ENDS, BEGINS), lambda: opposite(ENDS)):
            told = join()
            expected = copy.deepcopy(told)
            told[0][0] = None
            told[1][0][0] = 7
            told[1].append([])
            self.assertEqual(join(), expected)
        self.assertEqual(ENDS, ([False, True], [[1, 0], [1, 0]]))


if __name__ == "__main__":
    unittest.main()
