import copy
import random
import unittest

from tests.samples import chain
from tests.spoken import (
    APART, calls_during, how_many_sentences, is_so, numbers_of, some_sentences, some_word, words_up_to,
)
from wordrules.errors import TooMuch, WordError
from wordrules.joins import both, either, opposite
from wordrules.least import least
from wordrules.machines import is_machine, lets
from wordrules.making import machine_of, sentence_machine
from wordrules.rules import rule_of, rule_weight
from wordrules.sentences import is_sentence, weight

TONGUE = ("ab", "01")
ONE = ("a",)
TWELVE = ("abcdef", "012345")
FOUR_KINDS = ("ab", "c", "0", "!")
TONGUES = (TONGUE, ONE, TWELVE, FOUR_KINDS, ("abc",))
OFTEN_257 = ("often", "ab01", 3)


def edges_of(tongue):
    """Sentences of the seven words without parts, their fields at the bounds and within."""
    signs = "".join(tongue)
    last = signs[-1]
    four = signs[:4]
    words = {signs[0], last, (signs * 6)[:6], signs[0] * 6, (signs[0] * 2 + last) * 2, (signs[0] + last) * 3,
             signs[0] + last + signs[0]}
    found = [("long", low, high) for low, high in ((0, 0), (0, 30), (30, 30), (2, 4), (1, 1), (0, None), (30, None),
                                                   (3, None))]
    found += [("least", kind, many) for kind in (0, len(tongue) - 1) for many in (0, 1, 2, 9)]
    found += [("often", told, many) for told in (signs[0], last, signs[:2], four, four[::-1]) for many in (0, 1, 2, 3)]
    found += [APART]
    found += [(head, word) for head in ("without", "begins", "ends") for word in sorted(words)]
    return found


class MakingTest(unittest.TestCase):
    def probes(self, tongue, sentence):
        """All short words, and longer ones that come near to what the sentence tells."""
        signs = "".join(tongue)
        draw = random.Random(str(sentence))
        most = {1: 12, 3: 6, 4: 5, 5: 4, 12: 2}[len(signs)]
        told = [part for part in flat(sentence) if isinstance(part, str) and part and set(part) <= set(signs)]
        words = words_up_to(signs, most) + [signs[0] * many for many in range(0, 34)]
        words += [some_word(draw, signs, 0, 34) for _ in range(60)]
        words += ["".join(some_word(draw, signs, 0, 2) + draw.choice(told or [signs[0]]) for _ in range(3))
                  for _ in range(60)]
        words += [word * 3 + word[:1] for word in told] + [word + word[:-1] for word in told]
        words += ["".join(draw.sample(signs, min(len(signs), 2))) * 5 for _ in range(10)]
        return words

    def assert_just_those(self, machine, tongue, sentences, words, heavy):
        self.assertIs(is_machine(len("".join(tongue)), machine), True)
        self.assertEqual(least(machine), machine)
        self.assertLessEqual(len(machine[0]), heavy)
        for word in words:
            self.assertIs(lets(machine, numbers_of(tongue, word)),
                          all(is_so(tongue, sentence, word) for sentence in sentences), (sentences, word))

    def assert_machine(self, tongue, sentence):
        self.assertTrue(is_sentence(tongue, sentence), sentence)
        machine = sentence_machine(tongue, sentence)
        words = self.probes(tongue, sentence)
        self.assert_just_those(machine, tongue, [sentence], words, weight(tongue, sentence))
        return machine

    def test_told_as_they_are(self):
        self.assertEqual(sentence_machine(("ab",), ("long", 1, 2)),
                         ([False, True, True], [[1, 1], [2, 2], [None, None]]))
        self.assertEqual(sentence_machine(("ab",), ("long", 1, None)), ([False, True], [[1, 1], [1, 1]]))
        self.assertEqual(sentence_machine(("ab",), ("long", 0, None)), ([True], [[0, 0]]))
        self.assertEqual(sentence_machine(("a", "b"), ("least", 1, 2)),
                         ([False, False, True], [[0, 1], [1, 2], [2, 2]]))
        self.assertEqual(sentence_machine(("ab",), ("often", "b", 1)), ([True, True], [[0, 1], [1, None]]))
        self.assertEqual(sentence_machine(("ab",), ("often", "ba", 0)), ([True], [[None, None]]))
        self.assertEqual(sentence_machine(("ab",), APART),
                         ([True, True, True], [[1, 2], [None, 2], [1, None]]))
        self.assertEqual(sentence_machine(("ab",), ("without", "ab")), ([True, True], [[1, 0], [1, None]]))
        self.assertEqual(sentence_machine(("ab",), ("begins", "ab")),
                         ([False, False, True], [[1, None], [None, 2], [2, 2]]))
        self.assertEqual(sentence_machine(("ab",), ("ends", "ab")), ([False, False, True], [[1, 0], [1, 2], [1, 0]]))
        self.assertEqual(sentence_machine(("ab",), ("not", ("begins", "a"))), ([True, True], [[None, 1], [1, 1]]))
        self.assertEqual(sentence_machine(("ab",), ("both", ("begins", "a"), ("ends", "b"))),
                         ([False, False, True], [[1, None], [1, 2], [1, 2]]))
        self.assertEqual(sentence_machine(("ab",), ("either", ("begins", "a"), ("long", 0, 0))),
                         ([True, True], [[1, None], [1, 1]]))

    def test_signs_by_their_numbers_in_the_tongue(self):
        self.assertEqual(sentence_machine(("ba", "10"), ("begins", "a0")),
                         ([False, False, True], [[None, 1, None, None], [None, None, None, 2], [2, 2, 2, 2]]))

    def test_fields_at_their_bounds(self):
        for tongue in TONGUES:
            for sentence in edges_of(tongue):
                if is_sentence(tongue, sentence):
                    self.assert_machine(tongue, sentence)

    def test_where_no_word_is_let(self):
        for sentence in (("not", ("long", 0, None)), ("both", ("begins", "a"), ("begins", "b")),
                         ("both", APART, ("begins", "aa"))):
            self.assertEqual(sentence_machine(("ab",), sentence), ([False], [[None, None]]))
        self.assertEqual(machine_of((TONGUE, (("long", 3, None), ("long", 0, 2)))), ([False], [[None] * 4]))

    def test_sentences_with_parts(self):
        for number, tongue in enumerate(TONGUES):
            light = [sentence for sentence in some_sentences(41 + number, 120, tongue)
                     if weight(tongue, sentence) <= 600]
            self.assertGreater(len(light), 40)
            for sentence in light:
                self.assert_machine(tongue, sentence)

    def test_four_deep_and_nine_in_all(self):
        begins, ends = ("begins", "a"), ("ends", "0")
        without = ("without", "b1")
        deep = ("not", ("both", ("either", begins, ends), ("not", without)))
        nine = ("either", ("both", ("both", begins, without), ("long", 1, None)), ("both", ends, ("often", "a", 1)))
        self.assertEqual(how_many_sentences(nine), 9)
        for sentence in (deep, nine, ("not", ("not", ("not", APART)))):
            self.assert_machine(TONGUE, sentence)

    def test_joined_of_the_parts(self):
        for tongue in TONGUES:
            sentences = some_sentences(51, 12, tongue, 2)
            for one, other in zip(sentences, sentences[1:]):
                if weight(tongue, one) * weight(tongue, other) > 600:
                    continue
                here, there = sentence_machine(tongue, one), sentence_machine(tongue, other)
                self.assertEqual(sentence_machine(tongue, ("both", one, other)), both(here, there))
                self.assertEqual(sentence_machine(tongue, ("either", one, other)), either(here, there))
                self.assertEqual(sentence_machine(tongue, ("not", one)), opposite(here))

    def test_a_rule_without_sentences(self):
        for tongue in TONGUES:
            self.assertEqual(machine_of((tongue, ())), ([True], [[0] * len("".join(tongue))]))

    def test_a_rule_of_one_sentence(self):
        for sentence in some_sentences(52, 40, TONGUE):
            if weight(TONGUE, sentence) <= 600:
                self.assertEqual(machine_of((TONGUE, (sentence,))), sentence_machine(TONGUE, sentence))

    def test_rules(self):
        draw = random.Random(53)
        for tongue in TONGUES:
            sentences = some_sentences(54, 200, tongue, 2)
            for many in (2, 3, 4):
                for _ in range(15):
                    told = draw.sample(sentences, many)
                    rule = rule_of(tongue, told)
                    if rule_weight(rule) <= 600:
                        words = self.probes(tongue, ("both", *told))
                        self.assert_just_those(machine_of(rule), tongue, told, words, rule_weight(rule))

    def test_a_rule_of_eight_sentences(self):
        told = [("long", 1, None), ("without", "a0"), ("ends", "b"), ("least", 0, 1), ("not", ("begins", "1")),
                ("least", 1, 0), ("long", 0, None), ("often", "01", 1)]
        rule = rule_of(TONGUE, told)
        self.assertEqual(rule_weight(rule), 2 * 3 * 2 * 2 * 3 * 1 * 1 * 5)
        self.assert_just_those(machine_of(rule), TONGUE, told, self.probes(TONGUE, ("both", *told)), 360)
        self.assertEqual(machine_of((TONGUE, (("ends", "a0"),) * 5)), sentence_machine(TONGUE, ("ends", "a0")))

    def test_the_order_of_sentences_does_not_matter(self):
        told = [("long", 2, 5), APART, ("not", ("ends", "a")), ("least", 1, 1)]
        self.assertEqual(machine_of(rule_of(TONGUE, told)), machine_of(rule_of(TONGUE, told[::-1])))

    def test_a_sentence_more_never_lets_a_word_more(self):
        told = [("long", 1, 4), ("least", 0, 1), ("not", ("ends", "a")), ("without", "b0")]
        for many in range(len(told)):
            fewer = machine_of(rule_of(TONGUE, told[:many]))
            more = machine_of(rule_of(TONGUE, told[:many + 1]))
            self.assertEqual(both(fewer, more), more)

    def test_as_many_stands_as_the_weight_tells(self):
        # The weight counts a stand from which no end is reached; where there is none it is met.
        for sentence, stands in ((("long", 30, None), 31), (("least", 1, 9), 10), (("ends", "ab01ab"), 7)):
            self.assertEqual(len(sentence_machine(TONGUE, sentence)[0]), stands)
            self.assertEqual(weight(TONGUE, sentence), stands)
        for sentence, stands in ((("long", 3, 30), 31), (OFTEN_257, 256), (APART, 5), (("without", "ab01ab"), 6),
                                 (("begins", "ab01ab"), 7)):
            self.assertEqual(len(sentence_machine(TONGUE, sentence)[0]), stands)
            self.assertEqual(weight(TONGUE, sentence), stands + 1)


class TooMuchTest(unittest.TestCase):
    def refused(self, deed):
        for kind in (TooMuch, WordError, ValueError):
            with self.assertRaises(kind) as caught:
                deed()
            self.assertIs(type(caught.exception), TooMuch)

    def refused_ahead_of_all_work(self, deed):
        self.refused(deed)

        def quietly():
            try:
                deed()
            except TooMuch:
                pass

        self.assertLess(calls_during(quietly), 1000)

    def test_a_weight_of_600(self):
        sentence = ("both", ("long", 29, None), ("either", ("least", 0, 9), ("ends", "0")))
        self.assertEqual(weight(TONGUE, sentence), 600)
        told = sentence_machine(TONGUE, sentence)
        self.assertEqual(told, both(chain_on(30), sentence_machine(TONGUE, sentence[2])))
        rule = (TWELVE, (("long", 23, None), ("least", 0, 4), ("least", 1, 4)))
        self.assertEqual(rule_weight(rule), 600)
        machine = machine_of(rule)
        self.assertEqual(least(machine), machine)
        self.assertLessEqual(len(machine[0]), 600)
        for word in ("a" * 19 + "0123", "a" * 19 + "01234", "a" * 18 + "01234", "0" * 60, "abcd" + "0" * 19):
            self.assertIs(lets(machine, numbers_of(TWELVE, word)),
                          all(is_so(TWELVE, sentence, word) for sentence in rule[1]), word)

    def test_fields_somewhat_beyond_the_bounds_up_to_600(self):
        self.assertEqual(weight(ONE, ("long", 0, 598)), 600)
        self.assertEqual(len(sentence_machine(ONE, ("long", 0, 598))[0]), 599)
        self.assertEqual(sentence_machine(ONE, ("long", 598, 598)), chain(599))

    def test_a_weight_of_601(self):
        for sentence in (("long", 600, None), ("long", 0, 599), ("least", 0, 600)):
            self.assertEqual(weight(TONGUE, sentence), 601)
            self.refused_ahead_of_all_work(lambda: sentence_machine(TONGUE, sentence))
            self.refused_ahead_of_all_work(lambda: machine_of((TONGUE, (sentence,))))
            self.refused_ahead_of_all_work(lambda: machine_of((TONGUE, (OFTEN_257, sentence))))

    def test_just_above_600_within_the_bounds(self):
        # 605 is 5 x 11 x 11, the least weight above 600 that sentences within the bounds have.
        five, eleven = ("often", "ab", 1), ("long", 10, None)
        self.refused_ahead_of_all_work(lambda: sentence_machine(TONGUE, ("both", five, ("either", eleven, eleven))))
        self.refused_ahead_of_all_work(lambda: machine_of((TONGUE, (five, eleven, eleven))))
        self.refused_ahead_of_all_work(lambda: machine_of((TONGUE, (OFTEN_257, ("long", 0, 1)))))

    def test_by_the_weight_not_by_the_stands(self):
        # Each of these machines is small, and so is what is joined of them.
        small = ("often", "ab01", 0)
        self.assertEqual(len(machine_of((TONGUE, (small,) * 8))[0]), 1)
        none = ("both", OFTEN_257, ("not", ("long", 0, 1)))
        self.assertEqual(weight(TONGUE, none), 771)
        self.refused_ahead_of_all_work(lambda: sentence_machine(TONGUE, none))
        heavy = ("not", ("both", ("long", 0, 0), ("long", 30, 30)))
        self.assertEqual(sentence_machine(TONGUE, heavy), ([True], [[0] * 4]))
        self.refused_ahead_of_all_work(lambda: machine_of((TONGUE, (heavy, ("long", 8, 8)))))

    def test_weights_of_eighty_figures(self):
        big = ("both", ("both", OFTEN_257, OFTEN_257), ("both", OFTEN_257, ("either", OFTEN_257, OFTEN_257)))
        self.assertTrue(is_sentence(TONGUE, big))
        rule = rule_of(TONGUE, [big] * 8)
        self.assertGreater(rule_weight(rule), 10 ** 80)
        self.refused_ahead_of_all_work(lambda: sentence_machine(TONGUE, big))
        self.refused_ahead_of_all_work(lambda: sentence_machine(TONGUE, ("not", big)))
        self.refused_ahead_of_all_work(lambda: machine_of(rule))
        for sentence in (("long", 0, 10 ** 79), ("long", 10 ** 79, None), ("least", 0, 10 ** 79),
                         ("often", "a", 10 ** 79)):
            self.refused_ahead_of_all_work(lambda: sentence_machine(TONGUE, sentence))
            self.refused_ahead_of_all_work(lambda: machine_of((TONGUE, (APART, sentence))))


class OwnTest(unittest.TestCase):
    def test_what_was_told_may_be_changed(self):
        rule = (TONGUE, (("long", 1, 3), ("not", ("begins", "a"))))
        for deed in (lambda: machine_of(rule), lambda: sentence_machine(TONGUE, rule[1][0]),
                     lambda: sentence_machine(TONGUE, ("long", 0, None)), lambda: machine_of((TONGUE, ()))):
            told = deed()
            expected = copy.deepcopy(told)
            told[0][0] = None
            told[1][0][0] = 7
            told[1][-1].append(7)
            told[1].append([])
            self.assertEqual(deed(), expected)

    def test_what_is_handed_in_stays(self):
        rule = (TONGUE, (("long", 1, 3), ("both", APART, ("ends", "0"))))
        before = copy.deepcopy(rule)
        machine_of(rule)
        sentence_machine(TONGUE, rule[1][1])
        self.assertEqual(rule, before)


def chain_on(stands):
    """Lets the rows of one number fewer than there are stands, and all longer ones, for four signs."""
    return ([stand == stands - 1 for stand in range(stands)],
            [[min(stand + 1, stands - 1)] * 4 for stand in range(stands)])


def flat(thing):
    if isinstance(thing, tuple):
        return [inner for part in thing for inner in flat(part)]
    return [thing]


if __name__ == "__main__":
    unittest.main()
