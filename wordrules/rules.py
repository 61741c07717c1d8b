"""Rules: a tongue and its sentences, when a word keeps one, and their weight."""

from wordrules.errors import NoSentence, NoTongue, TooMany
from wordrules.sentences import holds, is_sentence, weight
from wordrules.signs import is_tongue

MOST_SENTENCES = 8


def rule_of(tongue, sentences):
    if not is_tongue(tongue):
        raise NoTongue("no tongue")
    if not isinstance(sentences, list) or len(sentences) > MOST_SENTENCES:
        raise TooMany("no list of at most eight sentences")
    for number, sentence in enumerate(sentences):
        if not is_sentence(tongue, sentence):
            raise NoSentence(number)
    return (tongue, tuple(sentences))


def is_rule(thing):
    if not isinstance(thing, tuple) or len(thing) != 2 or not is_tongue(thing[0]):
        return False
    if not isinstance(thing[1], tuple) or len(thing[1]) > MOST_SENTENCES:
        return False
    return all([is_sentence(thing[0], sentence) for sentence in thing[1]])


def keeps(rule, word):
    return all([holds(rule[0], sentence, word) for sentence in rule[1]])


def rule_weight(rule):
    product = 1
    for sentence in rule[1]:
        product = product * weight(rule[0], sentence)
    return product
