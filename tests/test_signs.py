import itertools
import unittest

from tests.anything import anything
from wordrules.signs import comes_first, is_tongue, is_word, kind_of, row_of, signs_of, word_of

TONGUE = ("ba", "01", "!")


class TongueTest(unittest.TestCase):
    def test_tongues(self):
        for tongue in (("a",), ("ab", "01"), TONGUE, ("a", "b", "c", "d"), ("abcdef",),
                       ("abcdef", "012345"), ("abc", "def", "012", "345"), ("!", "~"), ("\\\"", "'")):
            self.assertIs(is_tongue(tongue), True, tongue)

    def test_number_of_kinds(self):
        self.assertIs(is_tongue(()), False)
        self.assertIs(is_tongue(("a", "b", "c", "d")), True)
        self.assertIs(is_tongue(("a", "b", "c", "d", "e")), False)

    def test_signs_of_a_kind(self):
        self.assertIs(is_tongue(("",)), False)
        self.assertIs(is_tongue(("a", "")), False)
        self.assertIs(is_tongue(("", "a")), False)
        self.assertIs(is_tongue(("abcdef",)), True)
        self.assertIs(is_tongue(("abcdefg",)), False)
        self.assertIs(is_tongue(("0", "abcdefg")), False)

    def test_twelve_signs_in_all(self):
        self.assertIs(is_tongue(("abcd", "efgh", "0123")), True)
        self.assertIs(is_tongue(("abcd", "efgh", "01234")), False)
        self.assertIs(is_tongue(("abcdef", "ghijkl", "0")), False)

    def test_no_sign_twice(self):
        for tongue in (("aa",), ("aba",), ("ab", "ca"), ("a", "b", "c", "a")):
            self.assertIs(is_tongue(tongue), False, tongue)

    def test_just_the_signs_from_first_to_last_but_one(self):
        for code in list(range(0, 260)) + [0x2028, 0xD800, 0x1F600]:
            sign = chr(code)
            self.assertIs(is_tongue((sign,)), "!" <= sign <= "~" and sign != "%", code)
            self.assertIs(is_tongue(("a" + sign, "b")), "!" <= sign <= "~" and sign not in "%ab", code)

    def test_no_tongues_of_other_kinds(self):
        for thing in (["ab", "01"], "ab", {"ab": "01"}, ("ab", ["0"]), ("ab", ("0",)), ("ab", None),
                      ("ab", 0), ("ab", True), (None,), (["a"],), ("ab", {"0": 1})):
            self.assertIs(is_tongue(thing), False, thing)

    def test_of_anything(self):
        for thing in anything():
            self.assertIs(is_tongue(thing), isinstance(thing, tuple) and thing == ("long",))
            self.assertIs(is_tongue(("bn", thing)), isinstance(thing, str) and thing == "a")


class WordTest(unittest.TestCase):
    def test_words(self):
        for word in ("", "a", "b", "ba01!", "!!!", "0a"):
            self.assertIs(is_word(TONGUE, word), True, word)

    def test_length(self):
        self.assertIs(is_word(TONGUE, "a" * 60), True)
        self.assertIs(is_word(TONGUE, "a" * 61), False)
        self.assertIs(is_word(TONGUE, "ab01" * 15), True)
        self.assertIs(is_word(TONGUE, "ab01" * 15 + "!"), False)

    def test_signs_of_the_tongue_alone(self):
        for word in ("c", "ac", "ca", "a b", " ", "a\n", "A", "a%"):
            self.assertIs(is_word(TONGUE, word), False, word)

    def test_no_words_of_other_kinds(self):
        for thing in (None, True, False, 0, 1, [], ["a"], ["a", "b"], (), ("a",), {}, {"a": "b"}, b"a", [0, 1]):
            self.assertIs(is_word(TONGUE, thing), False, thing)

    def test_of_anything(self):
        for thing in anything():
            fits = isinstance(thing, str) and thing in ("", "a", "ab")
            self.assertIs(is_word(TONGUE, thing), fits)


class SignsTest(unittest.TestCase):
    def test_signs_in_order(self):
        self.assertEqual(signs_of(TONGUE), "ba01!")
        self.assertEqual(signs_of(("z",)), "z")
        self.assertEqual(signs_of(("cb", "a", "32", "1")), "cba321")

    def test_kind_of_each_sign(self):
        self.assertEqual([kind_of(TONGUE, sign) for sign in "ba01!"], [0, 0, 1, 1, 2])
        self.assertEqual([kind_of(("a", "b", "c", "d"), sign) for sign in "dcba"], [3, 2, 1, 0])
        self.assertIs(type(kind_of(TONGUE, "a")), int)


class OrderTest(unittest.TestCase):
    def test_the_shorter_comes_first(self):
        self.assertIs(comes_first(TONGUE, "", "b"), True)
        self.assertIs(comes_first(TONGUE, "b", ""), False)
        self.assertIs(comes_first(TONGUE, "!", "bb"), True)
        self.assertIs(comes_first(TONGUE, "bb", "!"), False)

    def test_the_first_place_at_which_they_are_unlike(self):
        self.assertIs(comes_first(TONGUE, "b", "a"), True)
        self.assertIs(comes_first(TONGUE, "a", "b"), False)
        self.assertIs(comes_first(TONGUE, "ab!", "a0b"), True)
        self.assertIs(comes_first(TONGUE, "a0b", "ab!"), False)

    def test_not_before_itself(self):
        for word in ("", "a", "a0!b", "a" * 60):
            self.assertIs(comes_first(TONGUE, word, word), False)

    def test_the_whole_order(self):
        words = ["".join(signs) for many in range(4) for signs in itertools.product("ba01!", repeat=many)]
        words = words[:60] + words[-20:]
        for one, other in itertools.product(range(len(words)), repeat=2):
            self.assertIs(comes_first(TONGUE, words[one], words[other]), one < other)


class RowTest(unittest.TestCase):
    def test_rows(self):
        self.assertEqual(row_of(TONGUE, ""), [])
        self.assertEqual(row_of(TONGUE, "ab!01b"), [1, 0, 4, 2, 3, 0])
        self.assertEqual(row_of(("abcdef", "012345"), "5fa0"), [11, 5, 0, 6])
        self.assertEqual(row_of(TONGUE, "!" * 60), [4] * 60)

    def test_words_of_rows(self):
        self.assertEqual(word_of(TONGUE, []), "")
        self.assertEqual(word_of(TONGUE, [1, 0, 4, 2, 3, 0]), "ab!01b")
        self.assertEqual(word_of(TONGUE, [4, 0] * 100), "!b" * 100)

    def test_each_the_way_back_of_the_other(self):
        for signs in itertools.product("ba01!", repeat=3):
            word = "".join(signs)
            self.assertEqual(word_of(TONGUE, row_of(TONGUE, word)), word)

    def test_nothing_handed_in_is_changed(self):
        row = [1, 0, 4]
        word_of(TONGUE, row)
        self.assertEqual(row, [1, 0, 4])

    def test_a_row_told_is_the_askers_own(self):
        row = row_of(TONGUE, "ab")
        row.append(9)
        self.assertEqual(row_of(TONGUE, "ab"), [1, 0])


if __name__ == "__main__":
    unittest.main()
