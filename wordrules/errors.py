"""The refusals, each of a class of its own straight under WordError."""


class WordError(ValueError):
    pass


class NoTongue(WordError):
    pass


class NoSentence(WordError):
    def __init__(self, number):
        self.number = number


class TooMany(WordError):
    pass


class TooMuch(WordError):
    pass


class NoNumber(WordError):
    pass


class NoWord(WordError):
    pass


class NoFit(WordError):
    pass


class Elder(WordError):
    pass


class Near(WordError):
    pass


class NoBack(WordError):
    pass


class NoText(WordError):
    pass


class NoLine(WordError):
    pass


class NoName(WordError):
    pass
