import copy
import unittest

from tests.anything import anything
from tests.samples import (
    alive_stands, all_machines, chain, cycle, let, met_stands, rows_up_to, some_machines, walked,
)
from wordrules.machines import alive, gone, is_machine, lets, met

# Stand 0 leads by 0 to 1 and by 1 to 2; 2 isn't alive; 3 is an end that is never met.
MACHINE = ([False, True, False, True], [[1, 2], [1, None], [2, 2], [0, 3]])


class IsMachineTest(unittest.TestCase):
    def yes(self, many, thing):
        self.assertIs(is_machine(many, thing), True, thing)

    def no(self, many, thing):
        self.assertIs(is_machine(many, thing), False, thing)

    def test_machines(self):
        self.yes(2, MACHINE)
        self.yes(1, ([True], [[0]]))
        self.yes(1, ([False], [[None]]))
        self.yes(12, ([False], [[None] * 12]))
        self.yes(12, ([False, True], [[1] * 12, [0] * 12]))
        self.yes(1, chain(1000))
        same = [0, None]
        self.yes(2, ([True, True], [same, same]))

    def test_for_another_number_of_signs(self):
        for many in (1, 3, 12):
            self.no(many, MACHINE)
        self.no(2, ([True, True], [[0, 0], [0]]))
        self.no(2, ([True, True], [[0, 0], [0, 0, 0]]))
        self.no(1, ([True], [[]]))
        self.no(0, ([True], [[]]))
        self.no(13, ([True], [[0] * 13]))

    def test_stands(self):
        self.no(1, ([], []))
        self.no(1, ([True], []))
        self.no(1, ([], [[None]]))
        self.no(1, ([True, False], [[0]]))
        self.no(1, ([True], [[0], [0]]))

    def test_where_signs_lead(self):
        self.yes(1, ([True, True], [[1], [0]]))
        for there in (2, -1, 10 ** 79, True, False, "0", "", [], [0], (0,), {}, b""):
            self.no(1, ([True, True], [[there], [0]]))
            self.no(1, ([True, True], [[0], [there]]))
            self.no(2, ([True, True], [[0, there], [0, 0]]))

    def test_ends_are_truths(self):
        for end in (None, 0, 1, "", "True", [], [True], (), {}):
            self.no(1, ([end], [[0]]))
            self.no(1, ([True, end], [[0], [0]]))

    def test_lists_and_tuples(self):
        self.no(1, [[True], [[0]]])
        self.no(1, ((True,), [[0]]))
        self.no(1, ([True], ([0],)))
        self.no(1, ([True], [(0,)]))
        self.no(1, ([True], [{0: 0}]))
        self.no(1, ([True], {0: [0]}))
        self.no(1, ({0: True}, [[0]]))
        self.no(1, ([True],))
        self.no(1, ([True], [[0]], None))
        self.no(1, ([True], "0"))
        self.no(1, ("a", ["a"]))

    def test_of_anything(self):
        for thing in anything():
            listed = isinstance(thing, list)
            for many in (1, 2, 12):
                self.no(many, thing)
                self.no(many, ([False], thing))
                self.assertIs(is_machine(many, (thing, [[None] * many])), listed and thing == [True])
                self.assertIs(is_machine(many, ([True], [thing])), listed and thing == [None] and many == 1)


class GoneTest(unittest.TestCase):
    def test_from_stand_to_stand(self):
        self.assertEqual(gone(MACHINE, 0, [0, 0, 0]), 1)
        self.assertEqual(gone(MACHINE, 0, [1]), 2)
        self.assertEqual(gone(MACHINE, 3, [1, 0, 0]), 1)

    def test_to_none_and_from_none(self):
        self.assertIs(gone(MACHINE, 0, [0, 1]), None)
        self.assertIs(gone(MACHINE, 0, [0, 1, 0, 0]), None)
        self.assertIs(gone(MACHINE, None, [0]), None)

    def test_by_the_row_without_numbers_one_stays(self):
        for stand in (0, 1, 2, 3, None):
            self.assertEqual(gone(MACHINE, stand, []), stand)

    def test_samples(self):
        for machine in some_machines(11, 60, 6):
            for row in rows_up_to(len(machine[1][0]), 4):
                for stand in [None] + list(range(len(machine[0]))):
                    self.assertEqual(gone(machine, stand, row), walked(machine, stand, row))

    def test_many_stands_and_long_rows(self):
        self.assertEqual(gone(chain(1000), 0, [0] * 999), 999)
        self.assertIs(gone(chain(1000), 0, [0] * 1000), None)
        self.assertEqual(gone(cycle(7, 12), 3, [11] * 1000), 1003 % 7)


class LetsTest(unittest.TestCase):
    def test_ends(self):
        self.assertIs(lets(MACHINE, []), False)
        self.assertIs(lets(MACHINE, [0]), True)
        self.assertIs(lets(MACHINE, [0, 0, 0]), True)
        self.assertIs(lets(MACHINE, [1]), False)
        self.assertIs(lets(MACHINE, [0, 1]), False)
        self.assertIs(lets(([True], [[None]]), []), True)
        self.assertIs(lets(([True], [[None]]), [0]), False)

    def test_without_an_end_none_is_let(self):
        for row in rows_up_to(2, 3):
            self.assertIs(lets(([False], [[None, None]]), row), False)
            self.assertIs(lets(([False, False], [[1, 0], [0, 1]]), row), False)

    def test_samples(self):
        for machine in some_machines(12, 80, 6):
            for row in rows_up_to(len(machine[1][0]), 4):
                self.assertIs(lets(machine, row), let(machine, row))

    def test_many_stands(self):
        self.assertIs(lets(chain(1000), [0] * 999), True)
        self.assertIs(lets(chain(1000), [0] * 998), False)


class MetAndAliveTest(unittest.TestCase):
    def test_met(self):
        self.assertEqual(met(MACHINE), [0, 1, 2])
        self.assertEqual(met(([False], [[None]])), [0])
        self.assertEqual(met(([True, True, True], [[2], [0], [None]])), [0, 2])
        self.assertEqual(met(([True] * 4, [[3, 1], [1, 1], [0, 0], [0, 0]])), [0, 1, 3])

    def test_alive(self):
        self.assertEqual(alive(MACHINE), [0, 1, 3])
        self.assertEqual(alive(([False], [[None]])), [])
        self.assertEqual(alive(([False, False], [[1], [0]])), [])
        self.assertEqual(alive(([True], [[None]])), [0])
        self.assertEqual(alive(([False, True, False, False], [[None], [0], [3], [1]])), [1, 2, 3])

    def test_samples(self):
        machines = list(some_machines(13, 200, 8)) + list(all_machines(2, 2)) + list(all_machines(1, 3))
        for machine in machines:
            self.assertEqual(met(machine), met_stands(machine))
            self.assertEqual(alive(machine), alive_stands(machine))

    def test_many_stands_for_one_sign(self):
        self.assertEqual(met(chain(1000)), list(range(1000)))
        self.assertEqual(alive(chain(1000)), list(range(1000)))
        backwards = ([True] + [False] * 999, [[None]] + [[stand] for stand in range(999)])
        self.assertEqual(met(backwards), [0])
        self.assertEqual(alive(backwards), list(range(1000)))
        self.assertEqual(met(cycle(24, 12)), list(range(24)))
        self.assertEqual(alive(cycle(24, 12)), list(range(24)))

    def test_lists_told_are_the_askers_own(self):
        for told in (met, alive):
            first = told(MACHINE)
            expected = list(first)
            first.append(9)
            self.assertEqual(told(MACHINE), expected)

    def test_nothing_handed_in_is_changed(self):
        machine = copy.deepcopy(MACHINE)
        row = [0, 1, 0]
        met(machine)
        alive(machine)
        gone(machine, 0, row)
        lets(machine, row)
        is_machine(2, machine)
        self.assertEqual(machine, MACHINE)
        self.assertEqual(row, [0, 1, 0])


if __name__ == "__main__":
    unittest.main()
