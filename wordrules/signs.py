"""Signs, tongues, words, their order, and rows."""

MOST_KINDS = 4
MOST_SIGNS_OF_A_KIND = 6
MOST_SIGNS = 12
MOST_SIGNS_OF_A_WORD = 60

LOWEST_CODE = 33
HIGHEST_CODE = 126
PERCENT_CODE = 37


def is_sign(sign):
    code = ord(sign)
    return LOWEST_CODE <= code <= HIGHEST_CODE and code != PERCENT_CODE


def is_kind(thing):
    if not isinstance(thing, str) or not 1 <= len(thing) <= MOST_SIGNS_OF_A_KIND:
        return False
    return all([is_sign(sign) for sign in thing])


def are_unlike(signs):
    return len(set(signs)) == len(signs)


def is_tongue(thing):
    if not isinstance(thing, tuple) or not 1 <= len(thing) <= MOST_KINDS:
        return False
    if not all([is_kind(kind) for kind in thing]):
        return False
    signs = signs_of(thing)
    return len(signs) <= MOST_SIGNS and are_unlike(signs)


def is_word(tongue, thing):
    if not isinstance(thing, str) or len(thing) > MOST_SIGNS_OF_A_WORD:
        return False
    signs = signs_of(tongue)
    return all([sign in signs for sign in thing])


def signs_of(tongue):
    return "".join(tongue)


def kind_of(tongue, sign):
    for number, kind in enumerate(tongue):
        if sign in kind:
            return number
    return None


def comes_first(tongue, one, other):
    if len(one) != len(other):
        return len(one) < len(other)
    for here, there in zip(row_of(tongue, one), row_of(tongue, other)):
        if here != there:
            return here < there
    return False


def row_of(tongue, word):
    signs = signs_of(tongue)
    return [signs.index(sign) for sign in word]


def word_of(tongue, row):
    signs = signs_of(tongue)
    return "".join([signs[number] for number in row])
