import itertools
import unittest

from tests.anything import anything
from wordrules.sentences import holds, is_sentence, weight

TONGUE = ("ab", "01")
ONE_KIND = ("a",)
FOUR_KINDS = ("a", "b", "c", "d")
TWELVE = ("abcdef", "012345")
APART = ("apart",)


def words_up_to(signs, most):
    return ["".join(word) for many in range(most + 1) for word in itertools.product(signs, repeat=many)]


def nested(deep):
    sentence = APART
    for _ in range(deep - 1):
        sentence = ("not", sentence)
    return sentence


class FormTest(unittest.TestCase):
    def yes(self, thing, tongue=TONGUE):
        self.assertIs(is_sentence(tongue, thing), True, thing)

    def no(self, thing, tongue=TONGUE):
        self.assertIs(is_sentence(tongue, thing), False, thing)

    def test_long(self):
        for low, high in ((0, 0), (0, 30), (30, 30), (7, 7), (3, 9), (0, None), (30, None)):
            self.yes(("long", low, high))
        for low, high in ((-1, 3), (-1, None), (31, None), (31, 31), (0, 31), (4, 3), (1, 0), (0, -1), (None, 3),
                          (None, None), (True, 3), (False, None), (0, True), (0, False), ("0", 3), (0, "3"),
                          ([0], 3), (0, []), (0, (3,)), (10 ** 79, None)):
            self.no(("long", low, high))

    def test_least(self):
        for kind, many in ((0, 0), (1, 0), (0, 9), (1, 9)):
            self.yes(("least", kind, many))
        for kind, many in ((-1, 1), (2, 1), (0, -1), (0, 10), (None, 1), (0, None), (True, 1), (False, 1),
                           (0, True), (0, False), ("a", 1), ("0", 1), (0, "1"), ([0], 1), (0, [1])):
            self.no(("least", kind, many))
        self.yes(("least", 0, 1), ONE_KIND)
        self.no(("least", 1, 1), ONE_KIND)
        self.yes(("least", 3, 1), FOUR_KINDS)
        self.no(("least", 4, 1), FOUR_KINDS)

    def test_often(self):
        for signs, many in (("a", 0), ("1", 3), ("ab", 1), ("01ba", 3), ("b0", 0)):
            self.yes(("often", signs, many))
        for signs, many in (("", 1), ("aa", 1), ("aba", 1), ("c", 1), ("ac", 1), ("a", -1), ("a", 4), ("a", None),
                            ("a", True), ("a", False), ("a", "1"), (["a"], 1), (("a", "b"), 1), (None, 1), (0, 1),
                            ("ab01a", 1)):
            self.no(("often", signs, many))
        self.yes(("often", "abcd", 3), TWELVE)
        self.no(("often", "abcde", 3), TWELVE)

    def test_apart(self):
        self.yes(("apart",))
        self.no(("apart", None))
        self.no(("apart", "a"))

    def test_word_sentences(self):
        for head in ("without", "begins", "ends"):
            for word in ("a", "0", "aa", "ab01ab", "111111"):
                self.yes((head, word))
            for word in ("", "ab01ab0", "c", "ac", "a a", None, 0, True, ["a"], ("a",), {"a": "a"}, [0, 1]):
                self.no((head, word))

    def test_parts(self):
        long = ("long", 1, 2)
        for sentence in (("not", APART), ("both", APART, long), ("either", long, APART),
                         ("not", ("both", ("not", long), ("either", APART, APART)))):
            self.yes(sentence)
        for thing in (("not", ("apart", 1)), ("both", APART, ("long", 2, 1)), ("either", ("long", 2, 1), APART),
                      ("not", ["apart"]), ("both", APART, ["apart"]), ("not", None), ("not", "apart"),
                      ("both", APART, None), ("either", True, APART), ("both", APART, 0), ("not", ())):
            self.no(thing)

    def test_a_field_more_or_fewer(self):
        for sentence in (("long", 1, 2), ("long", 1, None), ("least", 0, 1), ("often", "a", 1), ("apart",),
                         ("without", "a"), ("begins", "a"), ("ends", "a"),
                         ("not", APART), ("both", APART, APART), ("either", APART, APART)):
            self.yes(sentence)
            self.no(sentence[:-1])
            for more in (None, 1, "a", APART):
                self.no(sentence + (more,))

    def test_a_list_in_a_tuples_place(self):
        for sentence in (("long", 1, 2), ("least", 0, 1), ("often", "a", 1), ("apart",), ("without", "a"),
                         ("not", APART), ("both", APART, APART)):
            self.no(list(sentence))
            self.no(("not", list(sentence)))
            self.no(("either", sentence, list(sentence)))

    def test_unknown_heads(self):
        for head in ("", "Apart", "apart ", "neither", None, 0, True, ("apart",), ["apart"]):
            for rest in ((), ("a",), (APART,), (0, 1), (APART, APART)):
                self.no((head,) + rest)

    def test_four_deep_and_five(self):
        self.yes(nested(1))
        self.yes(nested(4))
        self.no(nested(5))
        self.yes(("both", APART, nested(3)))
        self.no(("both", APART, nested(4)))
        self.no(("either", nested(4), APART))

    def test_nine_in_all_and_ten(self):
        three = ("both", APART, APART)
        four = ("not", three)
        five = ("both", three, APART)
        six = ("either", three, ("not", APART))
        self.yes(("both", five, three))
        self.yes(("either", four, four))
        self.yes(("not", ("both", three, three)))
        self.no(("both", six, three))
        self.no(("both", three, six))
        self.no(("either", five, four))
        self.no(("both", five, five))

    def test_of_anything(self):
        for thing in anything():
            self.no(thing)
            for head in ("not", "without", "begins", "ends", "apart"):
                fits = head in ("without", "begins", "ends") and isinstance(thing, str) and thing in ("a", "ab")
                self.assertIs(is_sentence(TONGUE, (head, thing)), fits)
            for head in ("long", "least", "often", "both", "either"):
                whole = isinstance(thing, int) and not isinstance(thing, bool)
                self.assertIs(is_sentence(TONGUE, (head, thing, APART)), False)
                self.assertIs(is_sentence(TONGUE, (head, APART, thing)), False)
                self.assertIs(is_sentence(TONGUE, (head, 1, thing)), {
                    "long": thing is None or (whole and 1 <= thing <= 30),
                    "least": whole and 0 <= thing <= 9,
                }.get(head, False))


class HoldsTest(unittest.TestCase):
    def held(self, sentence, words, tongue=TONGUE):
        return [word for word in words if self.asked(tongue, sentence, word)]

    def asked(self, tongue, sentence, word):
        answer = holds(tongue, sentence, word)
        self.assertIsInstance(answer, bool)
        return answer

    def test_long(self):
        words = ["a" * many for many in range(5)]
        self.assertEqual(self.held(("long", 0, 0), words), [""])
        self.assertEqual(self.held(("long", 1, 3), words), ["a", "aa", "aaa"])
        self.assertEqual(self.held(("long", 2, 2), words), ["aa"])
        self.assertEqual(self.held(("long", 3, None), words), ["aaa", "aaaa"])
        self.assertEqual(self.held(("long", 0, None), words), words)
        self.assertIs(holds(TONGUE, ("long", 30, None), "a" * 60), True)
        self.assertIs(holds(TONGUE, ("long", 0, 30), "a" * 31), False)

    def test_least(self):
        words = ["", "a", "0", "aa", "ab", "a0", "0b1", "bab", "010"]
        self.assertEqual(self.held(("least", 0, 0), words), words)
        self.assertEqual(self.held(("least", 0, 1), words), ["a", "aa", "ab", "a0", "0b1", "bab"])
        self.assertEqual(self.held(("least", 0, 2), words), ["aa", "ab", "bab"])
        self.assertEqual(self.held(("least", 1, 2), words), ["0b1", "010"])
        self.assertIs(holds(TONGUE, ("least", 1, 9), "0" * 9), True)
        self.assertIs(holds(TONGUE, ("least", 1, 9), "0" * 8 + "a" * 9), False)

    def test_often(self):
        words = ["", "a", "b", "aa", "ab", "abab", "aab", "bb0", "a0a0a", "1111"]
        self.assertEqual(self.held(("often", "a", 0), words), ["", "b", "bb0", "1111"])
        self.assertEqual(self.held(("often", "ab", 1), words), ["", "a", "b", "ab", "1111"])
        self.assertEqual(self.held(("often", "ba", 2), words),
                         ["", "a", "b", "aa", "ab", "abab", "aab", "bb0", "1111"])
        self.assertEqual(self.held(("often", "1", 3), words), words[:-1])

    def test_apart(self):
        words = ["", "a", "ab", "aa", "aba", "abb", "0110", "0101"]
        self.assertEqual(self.held(APART, words), ["", "a", "ab", "aba", "0101"])

    def test_without_begins_ends(self):
        words = ["", "a", "ab", "ba", "aab", "aba", "bab", "b0a", "abab"]
        self.assertEqual(self.held(("without", "ab"), words), ["", "a", "ba", "b0a"])
        self.assertEqual(self.held(("begins", "ab"), words), ["ab", "aba", "abab"])
        self.assertEqual(self.held(("ends", "ab"), words), ["ab", "aab", "bab", "abab"])
        self.assertEqual(self.held(("ends", "a"), words), ["a", "ba", "aba", "b0a"])
        self.assertIs(holds(TONGUE, ("without", "aaaaaa"), "a" * 5), True)
        self.assertIs(holds(TONGUE, ("without", "aaaaaa"), "b" + "a" * 6), False)

    def test_not_both_either(self):
        begins = ("begins", "a")
        ends = ("ends", "b")
        words = words_up_to("ab", 3)
        for word in words:
            one, other = word[:1] == "a", word[-1:] == "b"
            self.assertIs(self.asked(TONGUE, ("not", begins), word), not one)
            self.assertIs(self.asked(TONGUE, ("both", begins, ends), word), one and other)
            self.assertIs(self.asked(TONGUE, ("either", begins, ends), word), one or other)
            self.assertIs(self.asked(TONGUE, ("not", ("both", ("not", begins), ("not", ends))), word), one or other)

    def test_the_empty_word(self):
        for sentence in (("long", 0, None), ("least", 0, 0), ("often", "a", 0), APART, ("without", "a"),
                         ("not", ("begins", "a")), ("not", ("ends", "a")), ("not", ("least", 1, 1))):
            self.assertIs(self.asked(TONGUE, sentence, ""), True, sentence)


class WeightTest(unittest.TestCase):
    def weighs(self, sentence, many, tongue=TONGUE):
        answer = weight(tongue, sentence)
        self.assertEqual(answer, many, sentence)
        self.assertIs(type(answer), int)

    def test_simple_ones(self):
        self.weighs(("long", 0, 0), 2)
        self.weighs(("long", 3, 8), 10)
        self.weighs(("long", 30, 30), 32)
        self.weighs(("long", 0, None), 1)
        self.weighs(("long", 30, None), 31)
        self.weighs(("least", 0, 0), 1)
        self.weighs(("least", 1, 9), 10)
        self.weighs(("without", "a"), 2)
        self.weighs(("without", "ab01ab"), 7)
        self.weighs(("begins", "a"), 3)
        self.weighs(("begins", "ab01ab"), 8)
        self.weighs(("ends", "a"), 2)
        self.weighs(("ends", "ab01ab"), 7)

    def test_often(self):
        self.weighs(("often", "ab", 1), 5)
        self.weighs(("often", "a", 0), 2)
        self.weighs(("often", "ab01", 0), 2)
        self.weighs(("often", "a", 3), 5)
        self.weighs(("often", "ab0", 2), 28)
        self.weighs(("often", "ab01", 3), 257)

    def test_apart(self):
        self.weighs(APART, 6)
        self.weighs(APART, 3, ONE_KIND)
        self.weighs(APART, 14, TWELVE)

    def test_parts(self):
        self.weighs(("not", ("long", 3, 8)), 10)
        self.weighs(("both", ("long", 3, 8), APART), 60)
        self.weighs(("either", ("least", 0, 2), ("often", "ab", 1)), 15)
        self.weighs(("not", ("either", ("both", APART, APART), ("not", ("begins", "a")))), 108)
        self.weighs(("both", ("both", ("often", "ab01", 3), ("often", "ab01", 3)), ("often", "ab01", 3)), 257 ** 3)


if __name__ == "__main__":
    unittest.main()
