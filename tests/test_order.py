import copy
import itertools
import unittest

from tests.anything import anything
from tests.samples import chain, cycle, few_machines, rows_let_up_to, some_machines
from tests.spoken import APART, is_so, words_up_to
from wordrules.counts import counts
from wordrules.errors import NoFit, NoNumber, NoWord, WordError
from wordrules.machines import lets
from wordrules.making import machine_of
from wordrules.order import number_of, word_at
from wordrules.signs import comes_first

TONGUE = ("ba", "01")
TWELVE = ("abcdef", "012345")
# Words that begin with a, for the signs b, a, 0, 1.
BEGINS_A = ([False, True], [[None, 1, None, None], [1, 1, 1, 1]])
ALL_12 = ([True], [[0] * 12])
NONE = ([False], [[None] * 4])


def tongue_of(machine):
    return ("bac!ed"[:len(machine[1][0])],)


class OrderTest(unittest.TestCase):
    def refused(self, kind, deed):
        for caught_as in (kind, WordError, ValueError):
            with self.assertRaises(caught_as) as caught:
                deed()
            self.assertIs(type(caught.exception), kind)

    def both_ways(self, tongue, machine, number, word):
        self.assertEqual(word_at(tongue, machine, number), word)
        self.assertEqual(number_of(tongue, machine, word), number)
        self.assertIs(type(number_of(tongue, machine, word)), int)

    def test_told_as_they_are(self):
        for number, word in enumerate(("a", "ab", "aa", "a0", "a1", "abb", "aba", "ab0", "ab1", "aab")):
            self.both_ways(TONGUE, BEGINS_A, number, word)
        self.both_ways(TONGUE, BEGINS_A, 1 + 4 + 15, "a11")

    def test_word_by_word(self):
        for machine in few_machines():
            tongue = tongue_of(machine)
            rows = rows_let_up_to(machine, {1: 6, 2: 5, 3: 4}[len(tongue[0])])
            for number, row in enumerate(rows[:90]):
                self.both_ways(tongue, machine, number, "".join(tongue[0][sign] for sign in row))

    def test_of_rules(self):
        sentences = (("long", 1, 4), APART, ("not", ("begins", "0")), ("least", 1, 1))
        machine = machine_of((TONGUE, sentences))
        words = [word for word in words_up_to("ba01", 4) if all(is_so(TONGUE, told, word) for told in sentences)]
        self.assertEqual(len(words), sum(counts(machine, 4)))
        for number, word in enumerate(words):
            self.both_ways(TONGUE, machine, number, word)
        self.refused(NoNumber, lambda: word_at(TONGUE, machine, len(words)))

    def test_shorter_words_first_then_by_their_signs(self):
        for machine in list(some_machines(91, 40, 9)):
            tongue = tongue_of(machine)
            most = sum(counts(machine, 60))
            words = [word_at(tongue, machine, number) for number in range(most // 2, min(most, most // 2 + 12))]
            for one, other in zip(words, words[1:]):
                self.assertIs(comes_first(tongue, one, other), True)

    def test_each_the_others_way_back(self):
        for machine in list(some_machines(92, 60, 9)) + [cycle(9, 3), chain(9, 3)]:
            tongue = tongue_of(machine)
            most = sum(counts(machine, 60))
            for number in {0, 1, 7, most // 3, most // 2, most - 2, most - 1}:
                if 0 <= number < most:
                    word = word_at(tongue, machine, number)
                    self.assertIs(lets(machine, [tongue[0].index(sign) for sign in word]), True)
                    self.assertEqual(number_of(tongue, machine, word), number)

    def test_the_last_word_and_the_number_behind_it(self):
        most = sum(12 ** length for length in range(61))
        self.both_ways(TWELVE, ALL_12, most - 1, "5" * 60)
        self.both_ways(TWELVE, ALL_12, most - 2, "5" * 59 + "4")
        self.both_ways(TWELVE, ALL_12, most - 12 ** 60, "a" * 60)
        self.both_ways(TWELVE, ALL_12, most - 12 ** 60 - 1, "5" * 59)
        self.refused(NoNumber, lambda: word_at(TWELVE, ALL_12, most))
        self.refused(NoNumber, lambda: word_at(TWELVE, ALL_12, most + 1))
        self.both_ways(("a",), ([True], [[0]]), 60, "a" * 60)
        self.refused(NoNumber, lambda: word_at(("a",), ([True], [[0]]), 61))
        self.both_ways(TONGUE, BEGINS_A, sum(4 ** length for length in range(60)) - 1, "a" + "1" * 59)
        self.refused(NoNumber, lambda: word_at(TONGUE, BEGINS_A, sum(4 ** length for length in range(60))))

    def test_few_words(self):
        machine = chain(5, 2)
        for number, row in enumerate(itertools.product("ab", repeat=4)):
            self.both_ways(("ab",), machine, number, "".join(row))
        self.refused(NoNumber, lambda: word_at(("ab",), machine, 16))

    def test_longer_words_than_sixty_signs_are_not_numbered(self):
        self.refused(NoNumber, lambda: word_at(("a",), chain(62), 0))
        self.both_ways(("a",), chain(61), 0, "a" * 60)

    def test_the_word_without_signs(self):
        self.both_ways(TONGUE, ([True], [[None] * 4]), 0, "")
        self.both_ways(TWELVE, ALL_12, 0, "")
        self.refused(NoNumber, lambda: word_at(TONGUE, ([True], [[None] * 4]), 1))
        self.refused(NoFit, lambda: number_of(TONGUE, BEGINS_A, ""))

    def test_where_none_is_let(self):
        for number in (0, 1, 10 ** 79):
            self.refused(NoNumber, lambda: word_at(TONGUE, NONE, number))
        for word in ("", "a", "1" * 60):
            self.refused(NoFit, lambda: number_of(TONGUE, NONE, word))

    def test_no_number(self):
        for thing in anything() + [-2, "0", "1", [0], (0,), {0: 0}]:
            if type(thing) is int and 0 <= thing < 10 ** 30:
                continue
            self.refused(NoNumber, lambda: word_at(TONGUE, BEGINS_A, thing))
        for thing in (True, False, None, -1, 10 ** 79, -(10 ** 79)):
            self.refused(NoNumber, lambda: word_at(TWELVE, ALL_12, thing))

    def test_no_word(self):
        for thing in anything() + ["c", "a c", "a%", "A", "a" * 61, "1" * 61, ["a"], ("a",), [1], 0]:
            if isinstance(thing, str) and thing in ("", "a", "ab"):
                continue
            self.refused(NoWord, lambda: number_of(TONGUE, BEGINS_A, thing))
            self.refused(NoWord, lambda: number_of(TONGUE, NONE, thing))

    def test_no_fit(self):
        for word in ("b", "0", "ba", "1" * 60, ""):
            self.refused(NoFit, lambda: number_of(TONGUE, BEGINS_A, word))
        self.refused(NoFit, lambda: number_of(("a",), chain(3), "a"))
        self.refused(NoFit, lambda: number_of(("a",), chain(3), "aaa"))

    def test_what_is_handed_in_stays(self):
        machine = copy.deepcopy(BEGINS_A)
        first = word_at(TONGUE, machine, 40)
        self.assertEqual(number_of(TONGUE, machine, first), 40)
        self.assertEqual(machine, BEGINS_A)
        self.assertEqual(word_at(TONGUE, machine, 40), first)

    def test_a_machine_changed_behind_a_call(self):
        machine = copy.deepcopy(BEGINS_A)
        self.assertEqual(word_at(TONGUE, machine, 1), "ab")
        machine[0][1] = False
        self.refused(NoNumber, lambda: word_at(TONGUE, machine, 0))
        self.refused(NoFit, lambda: number_of(TONGUE, machine, "ab"))


if __name__ == "__main__":
    unittest.main()
