import itertools
import random
import unittest

from tests.anything import anything
from tests.spoken import APART, is_so, some_sentences, some_word, words_up_to
from wordrules.counts import counts
from wordrules.errors import NoTongue, WordError
from wordrules.exchanges import exchanged_rule, exchanged_word
from wordrules.making import machine_of
from wordrules.rules import is_rule, keeps, rule_of, rule_weight

TONGUE = ("abc", "01", "!")
OTHER = ("cab", "10", "!")
ONE = ("a",)
TWELVE = ("abcdef", "012345")
FOUR_KINDS = ("abc", "def", "012", "345")
EVERY = (
    ("long", 1, 5), ("least", 0, 2), ("often", "b0a", 1), APART, ("without", "ab0"), ("begins", "ba"), ("ends", "c!1"),
    ("not", ("ends", "a")), ("both", ("begins", "a"), ("not", ("without", "b"))), ("either", APART, ("often", "!c", 2)),
)


def others_of(tongue):
    """All tongues with the same signs of each kind, or some where there are many."""
    kinds = [["".join(order) for order in itertools.permutations(kind)] for kind in tongue]
    return list(itertools.islice(itertools.product(*kinds), 0, None, 1 if len(tongue[0]) < 4 else 7919))


class ExchangesTest(unittest.TestCase):
    def test_words(self):
        self.assertEqual(exchanged_word(TONGUE, OTHER, "abc01!"), "cab10!")
        self.assertEqual(exchanged_word(TONGUE, OTHER, "aab!0c"), "cca!1b")
        self.assertEqual(exchanged_word(TONGUE, OTHER, ""), "")
        self.assertEqual(exchanged_word(TONGUE, OTHER, "c1" * 30), "b0" * 30)
        self.assertEqual(exchanged_word(("ba",), ("ab",), "bba"), "aab")

    def test_the_one_that_has_its_number(self):
        for tongue in (TONGUE, ONE, TWELVE, FOUR_KINDS, ("a", "b", "c", "d")):
            signs = "".join(tongue)
            for other in others_of(tongue):
                self.assertEqual(exchanged_word(tongue, other, signs), "".join(other))
                self.assertEqual(exchanged_word(other, tongue, exchanged_word(tongue, other, signs[::-1])), signs[::-1])

    def test_by_the_same_tongue(self):
        for tongue in (TONGUE, ONE, TWELVE, FOUR_KINDS):
            self.assertEqual(exchanged_word(tongue, tongue, "".join(tongue)), "".join(tongue))
        self.assertEqual(exchanged_rule((TONGUE, EVERY[:8]), TONGUE), (TONGUE, EVERY[:8]))
        self.assertEqual(exchanged_word(ONE, ONE, "aaa"), "aaa")

    def test_every_word_that_names_signs(self):
        for told, expected in zip(EVERY, (
            ("long", 1, 5), ("least", 0, 2), ("often", "a1c", 1), APART, ("without", "ca1"), ("begins", "ac"),
            ("ends", "b!0"), ("not", ("ends", "c")), ("both", ("begins", "c"), ("not", ("without", "a"))),
            ("either", APART, ("often", "!b", 2)),
        )):
            self.assertEqual(exchanged_rule((TONGUE, (told,)), OTHER), (TONGUE, (expected,)))

    def test_four_deep(self):
        told = ("not", ("either", ("both", ("ends", "a0"), ("often", "ab", 1)), ("begins", "1")))
        expected = ("not", ("either", ("both", ("ends", "c1"), ("often", "ca", 1)), ("begins", "0")))
        self.assertEqual(exchanged_rule((TONGUE, (told, APART)), OTHER), (TONGUE, (expected, APART)))

    def test_a_rule_of_none_and_of_eight_sentences(self):
        self.assertEqual(exchanged_rule((TONGUE, ()), OTHER), (TONGUE, ()))
        told = exchanged_rule((TONGUE, (("ends", "a"),) * 8), OTHER)
        self.assertEqual(told, (TONGUE, (("ends", "c"),) * 8))

    def test_kinds_and_texts_that_are_no_signs_stay(self):
        # The words of sentences have signs of this tongue in them.
        tongue, other = ("lasten", "ogi"), ("netsal", "igo")
        told = (("long", 1, 2), ("least", 1, 3), APART, ("often", "le", 2), ("begins", "long"), ("not", ("ends", "at")))
        self.assertEqual(exchanged_rule((tongue, told), other), (tongue, (
            ("long", 1, 2), ("least", 1, 3), APART, ("often", "na", 2), ("begins", "nilg"), ("not", ("ends", "es")))))

    def test_the_rules_tongue_stays(self):
        rule = rule_of(TONGUE, list(EVERY[:8]))
        told = exchanged_rule(rule, OTHER)
        self.assertEqual(told[0], TONGUE)
        self.assertIs(is_rule(told), True)
        self.assertEqual(rule_weight(told), rule_weight(rule))
        self.assertEqual(rule, (TONGUE, EVERY[:8]))

    def test_a_word_keeps_a_rule_just_where_the_exchanged_ones_do(self):
        draw = random.Random(121)
        for tongue in (("ab", "01"), ("abc",), ONE, ("a", "b", "cd"), TWELVE):
            signs = "".join(tongue)
            words = words_up_to(signs, 3 if len(signs) < 5 else 1) + [some_word(draw, signs, 0, 12) for _ in range(30)]
            sentences = some_sentences(122, 60, tongue)
            for other in draw.sample(others_of(tongue), min(4, len(others_of(tongue)))):
                for _ in range(12):
                    rule = rule_of(tongue, draw.sample(sentences, draw.randint(0, 3)))
                    told = exchanged_rule(rule, other)
                    for word in words:
                        moved = exchanged_word(tongue, other, word)
                        kept = all(is_so(tongue, sentence, word) for sentence in rule[1])
                        self.assertIs(keeps(told, moved), kept)

    def test_the_counts_stay(self):
        draw = random.Random(123)
        tongue = ("abc", "01")
        sentences = some_sentences(124, 100, tongue, 3)
        tried = 0
        for _ in range(60):
            rule = rule_of(tongue, draw.sample(sentences, 2))
            if rule_weight(rule) <= 160:
                told = exchanged_rule(rule, ("bca", "10"))
                self.assertEqual(counts(machine_of(told), 8), counts(machine_of(rule), 8))
                tried += 1
        self.assertGreater(tried, 20)


class NoTongueTest(unittest.TestCase):
    def refused(self, tongue, other):
        for deed in (lambda: exchanged_word(tongue, other, ""), lambda: exchanged_rule((tongue, ()), other),
                     lambda: exchanged_word(tongue, other, tongue[0]),
                     lambda: exchanged_rule((tongue, (("ends", tongue[0][0]),)), other)):
            for kind in (NoTongue, WordError, ValueError):
                with self.assertRaises(kind) as caught:
                    deed()
                self.assertIs(type(caught.exception), NoTongue)

    def test_of_anything(self):
        for thing in anything():
            self.refused(TONGUE, thing)
            self.refused(("a", "b"), thing)
            self.refused(ONE, thing)
            self.refused(TONGUE, ("abc", "01", thing))

    def test_of_other_kinds(self):
        for other in (list(TONGUE), "abc01!", ("abc", "01", ["!"]), ("abc", ("0", "1"), "!"), (TONGUE,),
                      ("abc", ["0", "1"], "!"), {"abc": 0, "01": 1, "!": 2}, (("a", "b", "c"), "01", "!")):
            self.refused(TONGUE, other)
        self.refused(ONE, "a")
        self.refused(ONE, ["a"])

    def test_kinds_fewer_or_more(self):
        for other in (("abc", "01"), ("abc",), (), ("abc", "01", "!", "x"), ("abc", "0", "1", "!"), ("abc01", "!"),
                      ("abc", "01!"), ("abc", "01", "!", ""), ("abc", "01", "")):
            self.refused(TONGUE, other)

    def test_kinds_the_other_way_about(self):
        for other in itertools.permutations(TONGUE):
            if other != TONGUE:
                self.refused(TONGUE, other)

    def test_signs_that_are_others(self):
        for other in (("abd", "01", "!"), ("abc", "02", "!"), ("abc", "01", "?"), ("ab0", "c1", "!"), ("ab!", "01", "c"),
                      ("ab", "c01", "!"), ("abcd", "01", "!"), ("ab", "01", "!"), ("aabc", "01", "!"), ("aab", "01", "!"),
                      ("abb", "01", "!"), ("abc", "00", "!"), ("abC", "01", "!"), ("abc ", "01", "!"), ("abc", "0%", "!")):
            self.refused(TONGUE, other)
        self.refused(TWELVE, ("abcdef", "012346"))
        self.refused(ONE, ("b",))


if __name__ == "__main__":
    unittest.main()
