import copy
import math
import unittest

from tests.anything import anything, deep
from tests.samples import all_machines, chain, cycle, few_machines, rows_let_from, some_machines, with_stands
from wordrules.counts import counts, holds_table, share, table
from wordrules.making import machine_of

# Rows that end with 0, for two signs; rows without two 1s in a row.
ENDS = ([False, True], [[1, 0], [1, 0]])
NO_11 = ([True, True, False], [[0, 1], [0, 2], [2, 2]])
ALL_12 = ([True], [[0] * 12])
NONE = ([False], [[None, None]])


class TableTest(unittest.TestCase):
    def test_told_as_they_are(self):
        self.assertEqual(table(ENDS, 3), [[0, 1], [1, 1], [2, 2], [4, 4]])
        self.assertEqual(table(NO_11, 4), [[1, 1, 0], [2, 1, 0], [3, 2, 0], [5, 3, 0], [8, 5, 0]])
        self.assertEqual(table(NONE, 2), [[0], [0], [0]])
        self.assertEqual(counts(ENDS, 3), [0, 1, 2, 4])
        self.assertEqual(counts(NO_11, 6), [1, 2, 3, 5, 8, 13, 21])
        self.assertEqual(counts(NONE, 3), [0, 0, 0, 0])

    def test_row_by_row(self):
        for machine in few_machines() + list(all_machines(1, 3)):
            many, stands = len(machine[1][0]), len(machine[0])
            most = {1: 6, 2: 4, 3: 3}[many]
            expected = [[len(rows_let_from(machine, stand, length)) for stand in range(stands)]
                        for length in range(most + 1)]
            self.assertEqual(table(machine, most), expected)
            self.assertEqual(counts(machine, most), [numbers[0] for numbers in expected])

    def test_many_signs(self):
        for machine in some_machines(71, 10, 5, 12):
            stands = range(len(machine[0]))
            self.assertEqual(table(machine, 2), [[len(rows_let_from(machine, stand, length)) for stand in stands]
                                                 for length in range(3)])

    def test_a_most_of_0_and_of_60(self):
        self.assertEqual(table(NO_11, 0), [[1, 1, 0]])
        self.assertEqual(counts(NO_11, 0), [1])
        self.assertEqual(counts(ENDS, 0), [0])
        self.assertEqual(counts(ALL_12, 60), [12 ** length for length in range(61)])
        self.assertEqual(counts(NO_11, 60)[60], fibonacci(62))
        told = table(NO_11, 60)
        self.assertEqual(len(told), 61)
        self.assertEqual(told[60], [fibonacci(62), fibonacci(61), 0])
        for numbers in told:
            self.assertTrue(all(type(number) is int for number in numbers))

    def test_forty_stands(self):
        self.assertEqual(counts(chain(40, 2), 60), [0] * 39 + [2 ** 39] + [0] * 21)
        self.assertEqual(counts(cycle(40, 12), 60), [12 ** length if length % 40 == 0 else 0 for length in range(61)])
        self.assertEqual(counts(with_stands(ENDS, 40), 60), counts(ENDS, 60))

    def test_of_rules(self):
        machine = machine_of((("ab", "01"), (("long", 2, 4), ("apart",))))
        self.assertEqual(counts(machine, 6), [0, 0, 4 * 3, 4 * 9, 4 * 27, 0, 0])

    def test_own(self):
        for deed in (lambda: table(NO_11, 3), lambda: counts(NO_11, 3)):
            told = deed()
            expected = copy.deepcopy(told)
            told[0] = 7
            told.append([1])
            self.assertEqual(deed(), expected)
        told = table(NO_11, 3)
        told[0][0] = 7
        told[1].append(7)
        self.assertEqual(table(NO_11, 3), [[1, 1, 0], [2, 1, 0], [3, 2, 0], [5, 3, 0]])
        self.assertEqual(NO_11, ([True, True, False], [[0, 1], [0, 2], [2, 2]]))


class HoldsTableTest(unittest.TestCase):
    def yes(self, machine, thing):
        self.assertIs(holds_table(machine, thing), True, thing)

    def no(self, machine, thing):
        self.assertIs(holds_table(machine, thing), False)

    def test_tables_are_let_by(self):
        for machine in few_machines():
            for most in (0, 1, 5, 60):
                self.yes(machine, table(machine, most))

    def test_tables_for_a_most_beyond_60(self):
        self.yes(NO_11, table(NO_11, 61))
        self.yes(NO_11, [[fibonacci(many + 2), fibonacci(many + 1), 0] for many in range(370)])
        self.no(NO_11, [[fibonacci(many + 2), fibonacci(many + 1), 0] for many in range(370)] + [[1, 0, 0]])
        self.yes(([True], [[0]]), [[1] for _ in range(1000)])
        self.no(([True], [[0]]), [[1] for _ in range(999)] + [[2]])
        self.yes(ALL_12, [[12 ** length] for length in range(74)])
        self.no(ALL_12, [[12 ** length] for length in range(73)] + [[10 ** 79]])

    def test_eight_stands(self):
        machine = cycle(8, 12)
        self.yes(machine, table(machine, 60))
        self.no(machine, table(with_stands(chain(7, 12), 8), 60))

    def test_just_the_tables(self):
        numbers = [[one, other] for one in range(3) for other in range(3)]
        for machine in list(all_machines(2, 2))[::3]:
            told = table(machine, 2)
            for first in numbers:
                self.assertIs(holds_table(machine, [first]), first == told[0])
                for second in numbers:
                    self.assertIs(holds_table(machine, [first, second]), [first, second] == told[:2])

    def test_one_number_changed(self):
        for machine in (ENDS, NO_11, cycle(3)):
            for length in range(5):
                for stand in range(len(machine[0])):
                    right = table(machine, 4)[length][stand]
                    for wrong in anything() + [right + 1, right - 1, -right - 1, bool(right), str(right), [right]]:
                        if isinstance(wrong, int) and not isinstance(wrong, bool) and wrong == right:
                            continue
                        thing = table(machine, 4)
                        thing[length][stand] = wrong
                        self.no(machine, thing)

    def test_truths_in_the_place_of_numbers(self):
        self.no(([True], [[0]]), [[True]])
        self.no(([True], [[0]]), [[1], [True]])
        self.no(([False], [[0]]), [[False]])
        self.no(NO_11, [[True, True, False]])
        self.no(NO_11, [NO_11[0]])

    def test_tuples_in_the_place_of_lists(self):
        told = table(NO_11, 2)
        self.no(NO_11, tuple(told))
        for place in range(3):
            thing = table(NO_11, 2)
            thing[place] = tuple(thing[place])
            self.no(NO_11, thing)
            thing[place] = dict(enumerate(thing[place]))
            self.no(NO_11, thing)

    def test_one_thing_more_or_fewer(self):
        self.no(NO_11, [])
        self.no(NO_11, [[]])
        for place in range(3):
            for change in (lambda numbers: numbers.append(0), lambda numbers: numbers.pop(),
                           lambda numbers: numbers.clear(), lambda numbers: numbers.append(None)):
                thing = table(NO_11, 2)
                change(thing[place])
                self.no(NO_11, thing)
            thing = table(NO_11, 2)
            thing.insert(place, list(thing[place]))
            self.no(NO_11, thing)
            if place < 2:
                thing = table(NO_11, 2)
                thing.pop(place)
                self.no(NO_11, thing)
        for more in ([], None, 0, [0, 0, 0], [8, 5], (5, 3, 0)):
            self.no(NO_11, table(NO_11, 2) + [more])
        self.yes(NO_11, table(NO_11, 2) + [[5, 3, 0]])

    def test_of_another_machine(self):
        self.no(ENDS, table(([True, True], [[1, 0], [1, 0]]), 2))
        self.no(ENDS, table(([False, True], [[1, None], [1, 0]]), 2))
        self.no(ENDS, table(with_stands(ENDS, 3), 2))

    def test_of_anything(self):
        for machine in (ENDS, NONE, ALL_12, ([True], [[None]])):
            for thing in anything():
                self.no(machine, thing)
                self.no(machine, [thing])
                self.no(machine, table(machine, 1) + [thing])
                if type(thing) is not int:
                    self.no(machine, [[thing] * len(machine[0])])
        self.no(ENDS, deep(lambda thing: [thing, thing], [0, 1], 29))

    def test_what_is_handed_in_stays(self):
        machine, thing = copy.deepcopy(NO_11), table(NO_11, 4)
        before = copy.deepcopy(thing)
        holds_table(machine, thing)
        table(machine, 4)
        counts(machine, 4)
        share(machine, 4)
        self.assertEqual(thing, before)
        self.assertEqual(machine, NO_11)


class ShareTest(unittest.TestCase):
    def test_told_as_they_are(self):
        self.assertEqual(share(ENDS, 5), (1, 2))
        self.assertEqual(share(NO_11, 3), (5, 8))
        self.assertEqual(share(NO_11, 4), (1, 2))
        self.assertEqual(share(ALL_12, 7), (1, 1))
        self.assertIs(type(share(ENDS, 5)), tuple)

    def test_none(self):
        for length in (0, 1, 5, 60):
            self.assertEqual(share(NONE, length), (0, 1))
        self.assertEqual(share(chain(4, 3), 2), (0, 1))
        self.assertEqual(share(ENDS, 0), (0, 1))

    def test_lengths_0_and_60(self):
        self.assertEqual(share(NO_11, 0), (1, 1))
        self.assertEqual(share(ALL_12, 60), (1, 1))
        top = fibonacci(62)
        common = math.gcd(top, 2 ** 60)
        self.assertEqual(share(NO_11, 60), (top // common, 2 ** 60 // common))
        one_row = ([True], [[0] + [None] * 11])
        self.assertEqual(share(one_row, 60), (1, 12 ** 60))

    def test_in_lowest_terms(self):
        for machine in few_machines():
            many = len(machine[1][0])
            for length in range(5):
                top, bottom = share(machine, length)
                let = len(rows_let_from(machine, 0, length))
                self.assertEqual(top * many ** length, let * bottom)
                self.assertEqual(math.gcd(top, bottom), 1)
                self.assertGreaterEqual(bottom, 1)
                self.assertIs(type(top), int)
                self.assertIs(type(bottom), int)

    def test_nine_stands(self):
        self.assertEqual(share(cycle(9, 12), 54), (1, 1))
        self.assertEqual(share(cycle(9, 12), 55), (0, 1))


def fibonacci(number):
    one, other = 0, 1
    for _ in range(number):
        one, other = other, one + other
    return one


if __name__ == "__main__":
    unittest.main()
