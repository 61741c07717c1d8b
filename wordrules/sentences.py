"""Sentences of a tongue, when they hold for a word, and their weight."""

from wordrules.signs import are_unlike, is_word, signs_of
from wordrules.things import is_whole_within

MOST_DEEP = 4
MOST_SENTENCES_IN_ONE = 9
HIGHEST_LENGTH = 30
HIGHEST_LEAST = 9
HIGHEST_OFTEN = 3
MOST_OFTEN_SIGNS = 4
MOST_SIGNS_TOLD = 6


# The depth is bounded while the parts are walked: of a thing thirty deep whose two
# parts are always the same one, all the parts could never be walked.
def is_sentence(tongue, thing):
    return is_formed(tongue, thing, MOST_DEEP) and sentences_in(thing) <= MOST_SENTENCES_IN_ONE


def is_formed(tongue, thing, deep):
    if deep == 0 or not isinstance(thing, tuple) or len(thing) == 0 or not isinstance(thing[0], str):
        return False
    many = how_many_parts(thing[0])
    if many == 0:
        return is_simple(tongue, thing)
    return len(thing) == many + 1 and all([is_formed(tongue, part, deep - 1) for part in thing[1:]])


def how_many_parts(head):
    if head == "not":
        return 1
    if head == "both" or head == "either":
        return 2
    return 0


def sentences_in(sentence):
    if how_many_parts(sentence[0]) == 0:
        return 1
    return 1 + sum([sentences_in(part) for part in sentence[1:]])


def is_simple(tongue, thing):
    head = thing[0]
    if head == "apart":
        return len(thing) == 1
    if head == "without" or head == "begins" or head == "ends":
        return len(thing) == 2 and is_told_word(tongue, thing[1])
    if len(thing) != 3:
        return False
    if head == "long":
        return is_low_and_high(thing[1], thing[2])
    if head == "least":
        return is_whole_within(thing[1], 0, len(tongue) - 1) and is_whole_within(thing[2], 0, HIGHEST_LEAST)
    if head == "often":
        return is_often_signs(tongue, thing[1]) and is_whole_within(thing[2], 0, HIGHEST_OFTEN)
    return False


def is_told_word(tongue, thing):
    return is_word(tongue, thing) and 1 <= len(thing) <= MOST_SIGNS_TOLD


def is_low_and_high(low, high):
    if not is_whole_within(low, 0, HIGHEST_LENGTH):
        return False
    return high is None or is_whole_within(high, low, HIGHEST_LENGTH)


def is_often_signs(tongue, thing):
    return is_word(tongue, thing) and 1 <= len(thing) <= MOST_OFTEN_SIGNS and are_unlike(thing)


def holds(tongue, sentence, word):
    head = sentence[0]
    if head == "not":
        return not holds(tongue, sentence[1], word)
    if head == "both":
        return holds(tongue, sentence[1], word) and holds(tongue, sentence[2], word)
    if head == "either":
        return holds(tongue, sentence[1], word) or holds(tongue, sentence[2], word)
    return holds_simple(tongue, sentence, word)


def holds_simple(tongue, sentence, word):
    head = sentence[0]
    if head == "long":
        return sentence[1] <= len(word) and (sentence[2] is None or len(word) <= sentence[2])
    if head == "least":
        kind = tongue[sentence[1]]
        return len([sign for sign in word if sign in kind]) >= sentence[2]
    if head == "often":
        return all([word.count(sign) <= sentence[2] for sign in sentence[1]])
    if head == "apart":
        return all([one != other for one, other in zip(word, word[1:])])
    if head == "without":
        return sentence[1] not in word
    if head == "begins":
        return word.startswith(sentence[1])
    return word.endswith(sentence[1])


def weight(tongue, sentence):
    head = sentence[0]
    if head == "not":
        return weight(tongue, sentence[1])
    if head == "both" or head == "either":
        return weight(tongue, sentence[1]) * weight(tongue, sentence[2])
    return simple_weight(tongue, sentence)


def simple_weight(tongue, sentence):
    head = sentence[0]
    if head == "long":
        return sentence[1] + 1 if sentence[2] is None else sentence[2] + 2
    if head == "least":
        return sentence[2] + 1
    if head == "often":
        return often_weight(sentence[1], sentence[2])
    if head == "apart":
        return len(signs_of(tongue)) + 2
    if head == "begins":
        return len(sentence[1]) + 2
    return len(sentence[1]) + 1


def often_weight(signs, most):
    product = 1
    for sign in signs:
        product = product * (most + 1)
    return product + 1
