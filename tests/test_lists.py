import copy
import random
import unittest

from tests.anything import anything
from tests.spoken import some_word, words_up_to
from wordrules.lists import changed, changed_word, is_way

TONGUE = ("abc", "01", "!")
WAYS = [("plain",), ("about",), ("swap", "a", "b"), ("ahead", "c0"), ("behind", "!"), ("twice",), ("cut", 2)]


def by_hand(way, word):
    """The word changed, sign by sign, as the document tells it."""
    signs = list(word)
    head, *told = way
    if head == "about":
        signs = [signs[len(signs) - 1 - place] for place in range(len(signs))]
    if head == "swap":
        signs = [told[1] if sign == told[0] else sign for sign in signs]
    if head == "ahead":
        signs = list(told[0]) + signs
    if head == "behind":
        signs = signs + list(told[0])
    if head == "twice":
        signs = signs + signs
    if head == "cut":
        signs = [sign for place, sign in enumerate(signs) if place < told[0]]
    return "".join(signs)


def some_way(draw, signs):
    one, other = draw.sample(signs, 2)
    return draw.choice((("plain",), ("about",), ("swap", one, other), ("ahead", some_word(draw, signs, 1, 3)),
                        ("behind", some_word(draw, signs, 1, 3)), ("twice",), ("cut", draw.randint(1, 6))))


class IsWayTest(unittest.TestCase):
    def yes(self, thing, tongue=TONGUE):
        self.assertIs(is_way(tongue, thing), True, thing)

    def no(self, thing, tongue=TONGUE):
        self.assertIs(is_way(tongue, thing), False)

    def test_each_way(self):
        for way in WAYS:
            self.yes(way)

    def test_every_two_unlike_signs(self):
        for one in "abc01!":
            for other in "abc01!":
                self.assertIs(is_way(TONGUE, ("swap", one, other)), one != other)

    def test_swap_of_what_is_no_sign(self):
        for wrong in ("", "ab", "aa", "d", "A", " ", "%", "\n", None, 0, True, ["a"], ("a",), b"a"):
            self.no(("swap", wrong, "b"))
            self.no(("swap", "b", wrong))
            self.no(("swap", wrong, wrong))
        self.no(("swap", "a", "a"), ("a",))

    def test_words_put_ahead_and_behind(self):
        for head in ("ahead", "behind"):
            for word in words_up_to("abc01!", 3)[1:]:
                self.yes((head, word))
            for word in ("", "aaaa", "abc0", "d", "ad", "A", "a ", "a%", " a", "a\n"):
                self.no((head, word))
            for wrong in (None, 1, True, ["a"], ("a",), ["a", "b"], b"a", {"a": 1}, {"a"}):
                self.no((head, wrong))

    def test_cut(self):
        for n in range(-3, 12):
            self.assertIs(is_way(TONGUE, ("cut", n)), 1 <= n <= 6)
        for wrong in (True, False, None, "1", [1], (1,), 10 ** 79, -1):
            self.no(("cut", wrong))

    def test_one_field_more_or_fewer(self):
        for way in WAYS:
            self.no(way[:-1])
            for more in anything():
                self.no(way + (more,))
            self.no((way,))
            self.no(way + way)

    def test_lists_and_texts_in_the_place_of_tuples(self):
        for way in WAYS:
            self.no(list(way))
            self.no(" ".join(str(field) for field in way))
            self.no(way[0])
            self.no(dict.fromkeys(way))

    def test_other_words(self):
        for head in ("Plain", "plain ", "turned", "swapped", "cuts", "", "long", "apart", "not", None, 0, True,
                     ["plain"]):
            self.no((head,))
            self.no((head, 1))
            self.no((head, "a"))
            self.no((head, "a", "b"))
            self.no((head, ("plain",)))

    def test_of_anything(self):
        for thing in anything():
            self.no(thing)
            self.no(("ahead", thing)) if thing not in ("a", "ab") else self.yes(("ahead", thing))
            self.no(("swap", "b", thing)) if thing != "a" else self.yes(("swap", "b", thing))
            self.no(("swap", thing, "b")) if thing != "a" else self.yes(("swap", thing, "b"))
            if type(thing) is not int or not 1 <= thing <= 6:
                self.no(("cut", thing))

    def test_of_other_tongues(self):
        self.yes(("swap", "x", "y"), ("xy",))
        self.yes(("swap", "x", "y"), ("x", "y"))
        self.no(("swap", "a", "y"), ("xy",))
        self.no(("ahead", "a"), ("xy",))
        self.yes(("behind", "-~!"), ("-~", "!"))
        self.yes(("cut", 6), ("x",))


class ChangedWordTest(unittest.TestCase):
    def test_told_as_they_are(self):
        for way, expected in zip(WAYS, ("aab0", "0baa", "bbb0", "c0aab0", "aab0!", "aab0aab0", "aa")):
            self.assertEqual(changed_word(way, "aab0"), expected)

    def test_swap_where_both_signs_stand_there(self):
        self.assertEqual(changed_word(("swap", "a", "b"), "abba0"), "bbbb0")
        self.assertEqual(changed_word(("swap", "b", "a"), "abba0"), "aaaa0")
        self.assertEqual(changed_word(("swap", "c", "a"), "abba0"), "abba0")

    def test_cut_of_a_word_that_has_no_more(self):
        for n in range(1, 7):
            for many in range(9):
                self.assertEqual(changed_word(("cut", n), "abc01!ab"[:many]), "abc01!ab"[:min(n, many)])

    def test_the_word_without_signs(self):
        for way, expected in zip(WAYS, ("", "", "", "c0", "!", "", "")):
            self.assertEqual(changed_word(way, ""), expected)

    def test_what_comes_may_be_longer_than_a_word(self):
        word = "ab" * 30
        self.assertEqual(changed_word(("twice",), word), "ab" * 60)
        self.assertEqual(changed_word(("twice",), "a" * 31), "a" * 62)
        self.assertEqual(changed_word(("ahead", "01!"), word), "01!" + word)
        self.assertEqual(changed_word(("behind", "01!"), word), word + "01!")
        self.assertEqual(changed_word(("about",), word), "ba" * 30)
        self.assertEqual(changed_word(("swap", "a", "b"), word), "b" * 60)

    def test_sign_by_sign(self):
        draw = random.Random(141)
        for _ in range(2000):
            way = some_way(draw, "abc01!")
            self.assertIs(is_way(TONGUE, way), True)
            word = some_word(draw, "abc01!", 0, draw.choice((3, 8, 60)))
            self.assertEqual(changed_word(way, word), by_hand(way, word))


class ChangedTest(unittest.TestCase):
    def test_told_as_they_are(self):
        self.assertEqual(changed(["ab", "b"], [("plain",), ("about",), ("twice",)]), ["ab", "b", "ba", "abab", "bb"])
        self.assertEqual(changed(["ab", "ba", "b0"], [("about",), ("plain",)]), ["ba", "ab", "0b", "b0"])

    def test_ways_first_then_words(self):
        told = changed(["a", "b"], [("ahead", "0"), ("behind", "0")])
        self.assertEqual(told, ["0a", "0b", "a0", "b0"])

    def test_no_words_and_no_ways(self):
        self.assertEqual(changed([], []), [])
        self.assertEqual(changed([], WAYS), [])
        self.assertEqual(changed(["ab", "b"], []), [])

    def test_alike_words_and_ways(self):
        self.assertEqual(changed(["ab"] * 12, [("about",)] * 8), ["ba"])
        self.assertEqual(changed(["ab"] * 12, WAYS), ["ab", "ba", "bb", "c0ab", "ab!", "abab"])
        self.assertEqual(changed(["ab", "b", "ab"], [("plain",)] * 8), ["ab", "b"])
        self.assertEqual(changed(["a", "b"], [("swap", "a", "b")]), ["b"])

    def test_each_where_it_comes_first(self):
        self.assertEqual(changed(["abc", "ab", "abcc"], [("cut", 3), ("cut", 2)]), ["abc", "ab"])
        self.assertEqual(changed(["b", "ab", "a"], [("cut", 1), ("plain",)]), ["b", "a", "ab"])

    def test_word_by_word(self):
        draw = random.Random(142)
        for _ in range(400):
            words = [some_word(draw, "ab0"[:draw.randint(1, 3)], 1, 6) for _ in range(draw.randint(0, 12))]
            ways = [some_way(draw, "ab0") for _ in range(draw.randint(0, 8))]
            expected = []
            for way in ways:
                for word in words:
                    if by_hand(way, word) not in expected:
                        expected.append(by_hand(way, word))
            self.assertEqual(changed(words, ways), expected)

    def test_what_is_handed_in_stays(self):
        words, ways = ["ab", "b", "ab"], list(WAYS)
        told = changed(words, ways)
        self.assertEqual((words, ways), (["ab", "b", "ab"], WAYS))
        expected = copy.copy(told)
        words.clear()
        ways.append(("plain",))
        self.assertEqual(told, expected)

    def test_own(self):
        words = ["ab", "b"]
        told = changed(words, [("plain",)])
        self.assertIs(type(told), list)
        self.assertIsNot(told, words)
        told.append("x")
        told[0] = "y"
        self.assertEqual(changed(words, [("plain",)]), ["ab", "b"])
        self.assertEqual(words, ["ab", "b"])


if __name__ == "__main__":
    unittest.main()
