import unittest

from wordrules import errors
from wordrules.errors import NoSentence, WordError

NAMES = (
    "NoTongue", "NoSentence", "TooMany", "TooMuch", "NoNumber", "NoWord", "NoFit",
    "Elder", "Near", "NoBack", "NoText", "NoLine", "NoName",
)


class ErrorsTest(unittest.TestCase):
    def test_word_error_is_a_value_error(self):
        self.assertEqual(WordError.__bases__, (ValueError,))

    def test_thirteen_classes_straight_under_word_error(self):
        for name in NAMES:
            self.assertEqual(getattr(errors, name).__bases__, (WordError,), name)
        under = [thing for thing in vars(errors).values()
                 if isinstance(thing, type) and issubclass(thing, WordError) and thing is not WordError]
        self.assertEqual(sorted(kind.__name__ for kind in under), sorted(NAMES))

    def test_no_sentence_tells_its_number(self):
        for number in (0, 3, 8):
            error = NoSentence(number)
            self.assertEqual(error.number, number)
            self.assertIs(type(error.number), int)

    def test_each_is_caught_as_word_error_and_as_value_error(self):
        for name in NAMES:
            kind = getattr(errors, name)
            for caught in (kind, WordError, ValueError):
                with self.assertRaises(caught):
                    raise kind(0)


if __name__ == "__main__":
    unittest.main()
