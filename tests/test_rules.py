import itertools
import unittest

from tests.anything import anything
from wordrules.errors import NoSentence, NoTongue, TooMany, WordError
from wordrules.rules import is_rule, keeps, rule_of, rule_weight

TONGUE = ("ab", "01")
APART = ("apart",)
SENTENCES = [("long", 1, 3), ("least", 0, 1), APART, ("not", ("ends", "a"))]


def words_up_to(signs, most):
    return ["".join(word) for many in range(most + 1) for word in itertools.product(signs, repeat=many)]


class RuleOfTest(unittest.TestCase):
    def refused(self, kind, tongue, sentences):
        with self.assertRaises(kind) as caught:
            rule_of(tongue, sentences)
        self.assertIs(type(caught.exception), kind)
        self.assertIsInstance(caught.exception, WordError)
        self.assertIsInstance(caught.exception, ValueError)
        return caught.exception

    def refused_at(self, number, tongue, sentences):
        error = self.refused(NoSentence, tongue, sentences)
        self.assertEqual(error.number, number)
        self.assertIs(type(error.number), int)

    def test_rules(self):
        self.assertEqual(rule_of(TONGUE, []), (TONGUE, ()))
        self.assertEqual(rule_of(TONGUE, SENTENCES), (TONGUE, tuple(SENTENCES)))
        rule = rule_of(TONGUE, [APART, APART])
        self.assertIs(type(rule), tuple)
        self.assertIs(type(rule[1]), tuple)

    def test_eight_sentences_and_nine(self):
        self.assertEqual(rule_of(TONGUE, [APART] * 8), (TONGUE, (APART,) * 8))
        self.refused(TooMany, TONGUE, [APART] * 9)
        self.refused(TooMany, TONGUE, [APART] * 1000)

    def test_no_tongue(self):
        for thing in anything():
            if thing != ("long",):
                self.refused(NoTongue, thing, [])
        self.refused(NoTongue, ["ab", "01"], [])
        self.refused(NoTongue, ("ab", "b"), [])

    def test_no_list(self):
        for thing in anything():
            if not isinstance(thing, list):
                self.refused(TooMany, TONGUE, thing)
        self.refused(TooMany, TONGUE, ())
        self.refused(TooMany, TONGUE, (APART,))
        self.refused(TooMany, TONGUE, {0: APART})

    def test_no_sentence(self):
        for thing in anything():
            self.refused_at(0, TONGUE, [thing])
            self.refused_at(7, TONGUE, [APART] * 7 + [thing])

    def test_the_first_that_is_no_sentence(self):
        self.refused_at(0, TONGUE, [None, None])
        self.refused_at(1, TONGUE, [APART, ["apart"], APART, None])
        self.refused_at(2, TONGUE, [APART, APART, ("long", 3, 2)])
        self.refused_at(1, ("ab",), [("least", 0, 1), ("least", 1, 1)])

    def test_which_refusal_goes_first(self):
        self.refused(NoTongue, (), (APART,))
        self.refused(NoTongue, (), [None] * 9)
        self.refused(NoTongue, (), [None])
        self.refused(NoTongue, None, None)
        self.refused(TooMany, TONGUE, [None] * 9)
        self.refused(TooMany, TONGUE, (None,))

    def test_a_later_change_of_the_list_does_not_change_the_rule(self):
        sentences = [APART, ("long", 1, 3)]
        rule = rule_of(TONGUE, sentences)
        sentences.append(APART)
        sentences[0] = ("ends", "a")
        self.assertEqual(rule, (TONGUE, (APART, ("long", 1, 3))))

    def test_nothing_handed_in_is_changed(self):
        sentences = list(SENTENCES)
        rule_of(TONGUE, sentences)
        self.assertEqual(sentences, SENTENCES)


class IsRuleTest(unittest.TestCase):
    def test_rules(self):
        for sentences in ((), (APART,), tuple(SENTENCES), (APART,) * 8):
            self.assertIs(is_rule((TONGUE, sentences)), True)
        self.assertIs(is_rule(rule_of(TONGUE, SENTENCES)), True)

    def test_no_rules(self):
        for thing in ((TONGUE, (APART,) * 9), (TONGUE, [APART]), [TONGUE, (APART,)], (TONGUE,), (TONGUE, (), ()),
                      (list(TONGUE), ()), (("aa",), ()), ((), ()), (TONGUE, APART), (TONGUE, (APART, None)),
                      (TONGUE, (("least", 2, 0),)), (TONGUE, (["apart"],)), (TONGUE, None), (TONGUE, {}), (TONGUE, "")):
            self.assertIs(is_rule(thing), False, thing)

    def test_of_anything(self):
        for thing in anything():
            self.assertIs(is_rule(thing), False)
            self.assertIs(is_rule((thing, ())), isinstance(thing, tuple) and thing == ("long",))
            self.assertIs(is_rule((TONGUE, thing)), isinstance(thing, tuple) and thing in ((), (APART,)))
            self.assertIs(is_rule((TONGUE, (thing,))), False)


class KeepsTest(unittest.TestCase):
    def test_each_sentence_holds(self):
        rule = rule_of(TONGUE, SENTENCES)
        kept = [word for word in words_up_to("ab01", 4) if keeps(rule, word)]
        self.assertEqual(kept, [
            word for word in words_up_to("ab01", 4)
            if 1 <= len(word) <= 3 and ("a" in word or "b" in word)
            and all(one != other for one, other in zip(word, word[1:])) and not word.endswith("a")
        ])
        self.assertIn("b", kept)
        self.assertIn("0a1", kept)

    def test_truths(self):
        self.assertIs(keeps(rule_of(TONGUE, [APART]), "ab"), True)
        self.assertIs(keeps(rule_of(TONGUE, [APART]), "aab"), False)
        self.assertIs(keeps(rule_of(TONGUE, [("long", 0, 1), APART]), "ab"), False)
        self.assertIs(keeps(rule_of(TONGUE, [APART, ("long", 0, 1)]), "ab"), False)

    def test_without_sentences_all_words_keep_it(self):
        rule = rule_of(TONGUE, [])
        for word in words_up_to("ab01", 2) + ["a" * 60]:
            self.assertIs(keeps(rule, word), True)

    def test_a_sentence_more_never_lets_a_word_more(self):
        words = words_up_to("ab01", 4)
        for many in range(len(SENTENCES)):
            fewer = rule_of(TONGUE, SENTENCES[:many])
            more = rule_of(TONGUE, SENTENCES[:many + 1])
            for word in words:
                self.assertTrue(keeps(fewer, word) or not keeps(more, word))


class RuleWeightTest(unittest.TestCase):
    def test_weights(self):
        self.assertEqual(rule_weight(rule_of(TONGUE, [])), 1)
        self.assertEqual(rule_weight(rule_of(TONGUE, [APART])), 6)
        self.assertEqual(rule_weight(rule_of(TONGUE, SENTENCES)), 5 * 2 * 6 * 2)
        self.assertEqual(rule_weight(rule_of(TONGUE, [("often", "ab01", 3)] * 8)), 257 ** 8)
        self.assertIs(type(rule_weight((TONGUE, ()))), int)


if __name__ == "__main__":
    unittest.main()
