import math
import random
import unittest

from tests.anything import anything
from tests.spoken import APART, is_so, some_sentences, some_word, words_up_to
from wordrules.errors import Elder, Near, NoBack, NoFit, NoSentence, NoWord, TooMany, TooMuch, WordError
from wordrules.keepers import Keeper
from wordrules.rules import rule_of, rule_weight
from wordrules.sentences import weight

TONGUE = ("ab", "01")
TWELVE = ("abcdef", "012345")
ANY = (TONGUE, ())
KINDS = {"word": NoWord, "fit": NoFit, "elder": Elder, "near": Near}


class ByHand:
    """A keeper as the document tells it: what is, and all that was ahead of each deed."""

    def __init__(self, rule, look_back, places):
        self.tongue = rule[0]
        self.look_back = look_back
        self.places = places
        self.now = (rule[1], [])
        self.before = []

    def why_not(self, word):
        sentences, words = self.now
        if len(word) > 24 or any(sign not in "".join(self.tongue) for sign in word):
            return "word"
        if not all(is_so(self.tongue, sentence, word) for sentence in sentences):
            return "fit"
        if word in words[::-1][:self.look_back]:
            return "elder"
        if words and len(words[-1]) == len(word):
            if sum(one != other for one, other in zip(words[-1], word)) < self.places:
                return "near"
        return None

    def take(self, word):
        self.before.append(self.now)
        self.now = (self.now[0], self.now[1] + [word])

    def harder(self, sentence):
        self.before.append(self.now)
        self.now = (self.now[0] + (sentence,), self.now[1])

    def undo(self):
        self.now = self.before.pop()

    def free(self, n):
        return sum(self.why_not(word) is None for word in words_up_to("".join(self.tongue), n) if len(word) == n)

    def due(self):
        sentences, words = self.now
        return not words or not all(is_so(self.tongue, sentence, words[-1]) for sentence in sentences)


class Keepers(unittest.TestCase):
    def refused(self, kind, deed):
        for caught_as in (kind, WordError, ValueError):
            with self.assertRaises(caught_as) as caught:
                deed()
            self.assertIs(type(caught.exception), kind)
        return caught.exception

    def seen(self, keeper):
        return (keeper.word(), keeper.taken(), keeper.rule(), keeper.due(), [keeper.free(n) for n in range(3)])

    def not_taken(self, keeper, why, word):
        before = self.seen(keeper)
        self.assertEqual(keeper.why_not(word), why)
        self.refused(KINDS[why], lambda: keeper.take(word))
        self.assertEqual(self.seen(keeper), before)

    def taken(self, keeper, *words):
        for word in words:
            self.assertIsNone(keeper.why_not(word))
            self.assertIsNone(keeper.take(word))
            self.assertEqual(keeper.word(), word)


class TakeTest(Keepers):
    def test_at_first(self):
        keeper = Keeper(ANY, 1, 1)
        self.assertEqual((keeper.word(), keeper.taken(), keeper.rule(), keeper.due()), (None, [], ANY, True))

    def test_one_behind_another(self):
        keeper = Keeper(ANY, 2, 1)
        self.taken(keeper, "ab", "a0", "", "ab", "b")
        self.assertEqual(keeper.taken(), ["ab", "a0", "", "ab", "b"])
        self.assertIs(keeper.due(), False)

    def test_no_word(self):
        keeper = Keeper(ANY, 0, 0)
        words = ("", "a", "ab")
        for thing in anything() + ["c", "a c", " ", "A", "a%", "a\n", "a" * 25, "ab01" * 7, ["a"], ("a",), 0, True]:
            if thing not in words:
                self.not_taken(keeper, "word", thing)
        self.taken(keeper, *words)

    def test_a_word_of_24_and_of_25_signs(self):
        keeper = Keeper((TONGUE, (("long", 0, 30),)), 9, 9)
        self.taken(keeper, "ab" * 12)
        for many in (25, 26, 30, 60, 61):
            self.not_taken(keeper, "word", "a" * many)

    def test_no_fit(self):
        keeper = Keeper((TONGUE, (("least", 1, 1), APART)), 0, 0)
        for word in ("", "a", "ab", "00", "a11", "aab0"):
            self.not_taken(keeper, "fit", word)
        self.taken(keeper, "0", "a0", "0a0a", "0a0a")

    def test_a_look_back_of_0(self):
        keeper = Keeper(ANY, 0, 0)
        self.taken(keeper, "a", "a", "b", "a", "a")

    def test_a_look_back_of_1(self):
        keeper = Keeper(ANY, 1, 0)
        self.taken(keeper, "a")
        self.not_taken(keeper, "elder", "a")
        self.taken(keeper, "b", "a")
        self.not_taken(keeper, "elder", "a")

    def test_a_look_back_of_more_than_were_taken(self):
        keeper = Keeper(ANY, 9, 0)
        self.taken(keeper, "a", "b", "")
        for word in ("a", "b", ""):
            self.not_taken(keeper, "elder", word)
        self.taken(keeper, "0")

    def test_each_look_back(self):
        words = words_up_to("ab01", 2)[:12]
        for look_back in range(10):
            keeper = Keeper(ANY, look_back, 0)
            self.taken(keeper, *words)
            for word in words[12 - look_back:]:
                self.not_taken(keeper, "elder", word)
            for word in words[:12 - look_back]:
                self.assertIsNone(keeper.why_not(word))
            self.taken(keeper, words[11 - look_back])
            self.assertIs(keeper.why_not(words[11 - look_back]) is None, look_back == 0)

    def test_each_number_of_places(self):
        word = "a" * 10
        for places in range(10):
            keeper = Keeper(ANY, 0, places)
            self.taken(keeper, word)
            for unlike in range(11):
                other = "b" * unlike + "a" * (10 - unlike)
                if unlike < places:
                    self.not_taken(keeper, "near", other)
                    self.not_taken(keeper, "near", other[::-1])
                else:
                    self.assertIsNone(keeper.why_not(other))

    def test_near_is_for_words_as_long(self):
        keeper = Keeper(ANY, 0, 9)
        self.taken(keeper, "aaaaaaaaa", "aaaaaaaa", "aaaaaaaaa")
        self.not_taken(keeper, "near", "aaaaaaaab")
        self.not_taken(keeper, "near", "bbbbbbbba")
        self.taken(keeper, "bbbbbbbbb", "aaaaaaaaab")

    def test_more_places_than_the_word_is_long(self):
        keeper = Keeper(ANY, 0, 3)
        self.taken(keeper, "ab")
        for word in words_up_to("ab01", 2)[5:]:
            self.not_taken(keeper, "near", word)
        self.taken(keeper, "")
        self.not_taken(keeper, "near", "")
        self.taken(keeper, "ab", "aba")

    def test_near_looks_at_the_word_that_it_has_alone(self):
        keeper = Keeper(ANY, 0, 2)
        self.taken(keeper, "aa", "bb", "aa", "b", "ab")
        self.not_taken(keeper, "near", "aa")

    def test_the_word_that_it_has_once_more(self):
        for look_back, places, why in ((0, 0, None), (1, 0, "elder"), (0, 1, "near"), (1, 1, "elder"), (9, 9, "elder")):
            keeper = Keeper(ANY, look_back, places)
            self.taken(keeper, "ab")
            if why is None:
                self.taken(keeper, "ab", "ab")
                self.assertEqual(keeper.taken(), ["ab"] * 3)
            else:
                self.not_taken(keeper, why, "ab")

    def test_which_refusal_goes_first(self):
        keeper = Keeper(ANY, 9, 9)
        self.taken(keeper, "aa")
        self.not_taken(keeper, "elder", "aa")
        keeper.harder(("begins", "b"))
        self.not_taken(keeper, "fit", "aa")
        self.not_taken(keeper, "near", "ba")
        self.not_taken(keeper, "word", "a" * 25)
        self.not_taken(keeper, "word", "c")
        self.not_taken(keeper, "fit", "ab")


class HarderTest(Keepers):
    def test_put_behind_the_others(self):
        keeper = Keeper((TONGUE, (APART,)), 0, 0)
        self.assertIsNone(keeper.harder(("long", 1, 9)))
        keeper.harder(("ends", "a"))
        self.assertEqual(keeper.rule(), (TONGUE, (APART, ("long", 1, 9), ("ends", "a"))))
        self.taken(keeper, "ba")
        self.not_taken(keeper, "fit", "b")

    def test_no_sentence(self):
        for many in range(9):
            keeper = Keeper((TONGUE, (("least", 0, 0),) * many), 0, 0)
            for thing in anything() + [["apart"], ("apart", 1), ("long", 2, 1), ("least", 2, 0), ("begins", "c"),
                                       ("ends", "abababa"), ("often", "aa", 1),
                                       ("not", ("not", ("not", ("not", APART))))]:
                if thing != APART:
                    before = self.seen(keeper)
                    self.assertEqual(self.refused(NoSentence, lambda: keeper.harder(thing)).number, many)
                    self.assertEqual(self.seen(keeper), before)

    def test_too_many(self):
        keeper = Keeper(ANY, 0, 0)
        for number in range(8):
            self.assertEqual(len(keeper.rule()[1]), number)
            keeper.harder(("least", 0, 0))
        for sentence in (("least", 0, 0), APART, ("often", "ab01", 3)):
            before = self.seen(keeper)
            self.refused(TooMany, lambda: keeper.harder(sentence))
            self.assertEqual(self.seen(keeper), before)
        self.assertEqual(self.refused(NoSentence, lambda: keeper.harder("apart")).number, 8)
        keeper.undo()
        keeper.harder(("least", 1, 0))

    def test_a_weight_of_600_and_above(self):
        keeper = Keeper((TONGUE, (("long", 0, 28),)), 0, 0)
        keeper.harder(("least", 0, 9))
        keeper.harder(("least", 1, 1))
        self.assertEqual(rule_weight(keeper.rule()), 600)
        before = self.seen(keeper)
        for sentence in (("least", 0, 1), APART, ("ends", "a"), ("often", "ab01", 3)):
            self.refused(TooMuch, lambda: keeper.harder(sentence))
            self.assertEqual(self.seen(keeper), before)
        keeper.harder(("least", 0, 0))
        keeper.harder(("long", 0, None))
        self.assertEqual(len(keeper.rule()[1]), 5)
        keeper.undo()
        self.assertEqual(keeper.rule()[1][3:], (("least", 0, 0),))

    def test_just_above_600(self):
        # 11 times 11 times 5 is 605, the least weight above 600 that sentences can have.
        keeper = Keeper((TONGUE, (("long", 0, 9), ("long", 0, 9))), 0, 0)
        self.assertEqual(rule_weight(keeper.rule()), 121)
        self.assertEqual(weight(TONGUE, ("least", 0, 4)), 5)
        self.refused(TooMuch, lambda: keeper.harder(("least", 0, 4)))
        keeper.harder(("least", 0, 3))
        self.assertEqual(rule_weight(keeper.rule()), 484)
        # A field beyond its bound, so that it comes to just one more.
        keeper = Keeper((TONGUE, (("least", 0, 600),)), 0, 0)
        self.refused(TooMuch, lambda: keeper.harder(("least", 0, 0)))

    def test_the_words_stay(self):
        keeper = Keeper(ANY, 3, 0)
        self.taken(keeper, "a", "b", "ab")
        keeper.harder(("begins", "b"))
        self.assertEqual(keeper.taken(), ["a", "b", "ab"])
        self.assertEqual(keeper.word(), "ab")
        self.assertIs(keeper.due(), True)
        self.not_taken(keeper, "elder", "b")
        self.taken(keeper, "ba")
        self.assertIs(keeper.due(), False)

    def test_due(self):
        keeper = Keeper(ANY, 0, 0)
        self.assertIs(keeper.due(), True)
        self.taken(keeper, "")
        self.assertIs(keeper.due(), False)
        keeper.harder(APART)
        self.assertIs(keeper.due(), False)
        keeper.harder(("long", 1, None))
        self.assertIs(keeper.due(), True)
        keeper.undo()
        self.assertIs(keeper.due(), False)

    def test_a_sentence_more_never_lets_a_word_more(self):
        for sentence in some_sentences(181, 60, TONGUE, 3):
            keeper = Keeper((TONGUE, (("least", 0, 1),)), 2, 1)
            self.taken(keeper, "ba", "ab")
            before = [keeper.free(n) for n in range(6)]
            if weight(TONGUE, sentence) <= 300:
                keeper.harder(sentence)
                for n in range(6):
                    self.assertLessEqual(keeper.free(n), before[n])


class UndoTest(Keepers):
    def test_till_nothing_is_left(self):
        keeper = Keeper((TONGUE, (APART,)), 1, 1)
        states = [self.seen(keeper)]
        for deed in (lambda: keeper.take("ab"), lambda: keeper.harder(("long", 1, None)), lambda: keeper.take("a"),
                     lambda: keeper.take("ba"), lambda: keeper.harder(("begins", "a")),
                     lambda: keeper.harder(("ends", "b")),
                     lambda: keeper.take("ab")):
            deed()
            states.append(self.seen(keeper))
        while len(states) > 1:
            self.assertEqual(self.seen(keeper), states.pop())
            self.assertIsNone(keeper.undo())
        for _ in range(3):
            self.assertEqual(self.seen(keeper), states[0])
            self.refused(NoBack, keeper.undo)
        self.assertEqual(keeper.rule(), (TONGUE, (APART,)))
        self.taken(keeper, "b")

    def test_at_first(self):
        keeper = Keeper((TONGUE, (APART, APART)), 9, 9)
        self.refused(NoBack, keeper.undo)
        self.assertEqual(keeper.rule(), (TONGUE, (APART, APART)))

    def test_behind_a_refusal(self):
        keeper = Keeper(ANY, 1, 0)
        self.taken(keeper, "a", "b")
        self.refused(Elder, lambda: keeper.take("b"))
        self.refused(NoWord, lambda: keeper.take("x"))
        self.refused(NoSentence, lambda: keeper.harder("x"))
        keeper.undo()
        self.assertEqual(keeper.taken(), ["a"])
        self.taken(keeper, "b")

    def test_what_is_undone_is_as_if_it_had_never_been(self):
        keeper = Keeper(ANY, 9, 2)
        self.taken(keeper, "ab", "ba")
        keeper.undo()
        self.taken(keeper, "ba")
        keeper.undo()
        keeper.undo()
        self.assertIs(keeper.due(), True)
        self.assertEqual(keeper.free(2), 16)
        self.taken(keeper, "ba", "ab")
        self.assertEqual(keeper.taken(), ["ba", "ab"])

    def test_between_words_and_sentences(self):
        keeper = Keeper(ANY, 0, 0)
        self.taken(keeper, "a")
        keeper.harder(("begins", "b"))
        self.refused(NoFit, lambda: keeper.take("a"))
        keeper.undo()
        self.taken(keeper, "a")
        keeper.undo()
        keeper.undo()
        self.assertEqual((keeper.taken(), keeper.rule()), ([], ANY))


class FreeTest(Keepers):
    def test_told_as_they_are(self):
        keeper = Keeper((TONGUE, (("least", 0, 1),)), 1, 1)
        self.assertEqual([keeper.free(n) for n in range(4)], [0, 2, 12, 56])
        self.taken(keeper, "ab")
        self.assertEqual([keeper.free(n) for n in range(4)], [0, 2, 11, 56])
        self.assertIs(type(keeper.free(2)), int)

    def test_of_0_signs(self):
        keeper = Keeper(ANY, 1, 0)
        self.assertEqual(keeper.free(0), 1)
        self.taken(keeper, "")
        self.assertEqual(keeper.free(0), 0)
        self.taken(keeper, "a")
        self.assertEqual(keeper.free(0), 1)
        keeper.harder(("long", 1, None))
        self.assertEqual(keeper.free(0), 0)
        keeper = Keeper(ANY, 0, 1)
        self.taken(keeper, "")
        self.assertEqual((keeper.free(0), keeper.free(1)), (0, 4))

    def test_of_24_signs(self):
        keeper = Keeper((TWELVE, ()), 0, 0)
        self.assertEqual(keeper.free(24), 12 ** 24)
        self.taken(keeper, "a1" * 12)
        self.assertEqual(keeper.free(24), 12 ** 24)
        for places in range(10):
            for look_back in (0, 1, 9):
                keeper = Keeper((TWELVE, ()), look_back, places)
                others = ["b" * 24, "c" * 24, "0" * 24]
                self.taken(keeper, *others, "1" * 23)
                gone = 3 if look_back > 1 else 0
                self.assertEqual(keeper.free(24), 12 ** 24 - gone)
                self.taken(keeper, "a1" * 12)
                far = sum(math.comb(24, unlike) * 11 ** unlike for unlike in range(places, 25))
                # The elder ones are unlike the word at every place; it is itself near where places are asked.
                itself = 1 if look_back > 0 and places == 0 else 0
                self.assertEqual(keeper.free(24), far - gone - itself)

    def test_of_24_signs_under_a_rule(self):
        # Words of b alone behind which a may stand: 25 of 24 signs, told by how many a they end with.
        keeper = Keeper((("ab",), (("without", "ab"),)), 2, 3)
        self.assertEqual(keeper.free(24), 25)
        self.taken(keeper, "b" * 14 + "a" * 10)
        # Fewer than three places away are those with 8 to 12 times a.
        self.assertEqual(keeper.free(24), 20)
        self.taken(keeper, "b" * 24)
        self.assertEqual(keeper.free(24), 25 - 3 - 1)
        self.taken(keeper, "b" * 20)
        self.assertEqual(keeper.free(24), 25 - 1)

    def test_beyond_24_signs_none_can_be_taken(self):
        self.assertEqual(Keeper(ANY, 0, 0).free(25), 0)

    def test_elder_ones_that_are_not_free_anyway(self):
        keeper = Keeper(ANY, 9, 2)
        self.taken(keeper, "aa", "bb", "ab0", "ab")
        # aa and bb are elder and near to ab, ab itself too: they are left out once.
        self.assertEqual(keeper.free(2), 9)
        keeper.harder(("ends", "0"))
        self.assertEqual(keeper.free(2), 3)
        self.assertEqual(keeper.free(3), 16 - 1)

    def test_word_by_word(self):
        draw = random.Random(182)
        for tongue in (("a",), ("ab",), ("a", "b0"), TONGUE):
            signs = "".join(tongue)
            sentences = [sentence for sentence in some_sentences(183, 80, tongue, 3) if weight(tongue, sentence) <= 30]
            for _ in range(60):
                rule = rule_of(tongue, draw.sample(sentences, draw.randint(0, 1)))
                told = (rule, draw.choice((0, 1, 2, 5, 9)), draw.choice((0, 1, 2, 3, 9)))
                self.go_on(draw, Keeper(*told), ByHand(*told), signs, sentences)

    def go_on(self, draw, keeper, by_hand, signs, sentences):
        for _ in range(14):
            deed = draw.choice(("take", "take", "take", "take", "harder", "undo"))
            if deed == "take":
                word = some_word(draw, signs, 0, 3)
                self.assertEqual(keeper.why_not(word), by_hand.why_not(word))
                if by_hand.why_not(word) is None:
                    keeper.take(word)
                    by_hand.take(word)
                else:
                    self.refused(KINDS[by_hand.why_not(word)], lambda: keeper.take(word))
            elif deed == "harder" and len(by_hand.now[0]) < 2:
                sentence = draw.choice(sentences)
                if rule_weight((by_hand.tongue, by_hand.now[0] + (sentence,))) <= 600:
                    keeper.harder(sentence)
                    by_hand.harder(sentence)
            elif deed == "undo" and by_hand.before:
                keeper.undo()
                by_hand.undo()
            self.assertEqual(keeper.rule(), (by_hand.tongue, by_hand.now[0]))
            self.assertEqual(keeper.taken(), by_hand.now[1])
            self.assertEqual(keeper.word(), by_hand.now[1][-1] if by_hand.now[1] else None)
            self.assertIs(keeper.due(), by_hand.due())
        for n in range(5):
            self.assertEqual(keeper.free(n), by_hand.free(n))

    def test_a_weight_of_600(self):
        keeper = Keeper((TONGUE, (("long", 0, 28), ("least", 0, 9), ("least", 1, 1))), 1, 9)
        self.assertEqual(rule_weight(keeper.rule()), 600)
        far = sum(math.comb(24, letters) * 2 ** 24 for letters in range(9, 24))
        self.assertEqual(keeper.free(24), far)
        self.taken(keeper, "a" * 20 + "0000")
        self.assertLess(keeper.free(24), far)
        self.assertGreater(keeper.free(24), far // 2)


class OwnTest(Keepers):
    def test_told_lists(self):
        keeper = Keeper(ANY, 9, 0)
        self.taken(keeper, "a", "b")
        told = keeper.taken()
        self.assertIs(type(told), list)
        told.append("0")
        told[0] = "x"
        self.assertEqual(keeper.taken(), ["a", "b"])
        self.assertIsNone(keeper.why_not("0"))
        self.not_taken(keeper, "elder", "a")
        earlier = keeper.taken()
        self.taken(keeper, "0")
        self.assertEqual(earlier, ["a", "b"])

    def test_told_rules(self):
        keeper = Keeper((TONGUE, (APART,)), 0, 0)
        earlier = keeper.rule()
        keeper.harder(("ends", "a"))
        self.assertEqual(earlier, (TONGUE, (APART,)))
        self.assertIs(type(keeper.rule()), tuple)
        self.assertIs(type(keeper.rule()[1]), tuple)

    def test_asking_changes_nothing(self):
        keeper = Keeper(ANY, 2, 1)
        self.taken(keeper, "a", "ab")
        before = self.seen(keeper)
        for word in ("a", "ab", "b", "", "x"):
            keeper.why_not(word)
        self.assertEqual(self.seen(keeper), before)
        keeper.undo()
        self.assertEqual(keeper.taken(), ["a"])

    def test_two_keepers(self):
        one, other = Keeper(ANY, 9, 9), Keeper(ANY, 9, 9)
        self.taken(one, "ab")
        one.harder(APART)
        self.assertEqual(self.seen(other), self.seen(Keeper(ANY, 9, 9)))
        self.refused(NoBack, other.undo)
        self.taken(other, "ab")
        other.undo()
        self.assertEqual(one.taken(), ["ab"])


if __name__ == "__main__":
    unittest.main()
