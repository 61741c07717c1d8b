"""Signs exchanged within their kinds, by another tongue, in words and in rules."""

from wordrules.errors import NoTongue
from wordrules.sentences import how_many_parts
from wordrules.signs import is_tongue, row_of, word_of


def exchanged_word(tongue, other, word):
    refuse_other_signs(tongue, other)
    return exchanged(tongue, other, word)


def exchanged_rule(rule, other):
    refuse_other_signs(rule[0], other)
    return (rule[0], tuple([exchanged_sentence(rule[0], other, sentence) for sentence in rule[1]]))


def refuse_other_signs(tongue, other):
    if not is_tongue(other) or [sorted(kind) for kind in other] != [sorted(kind) for kind in tongue]:
        raise NoTongue("no tongue with the same signs of each kind")


def exchanged(tongue, other, text):
    return word_of(other, row_of(tongue, text))


def exchanged_sentence(tongue, other, sentence):
    head = sentence[0]
    if how_many_parts(head) > 0:
        return tuple([head] + [exchanged_sentence(tongue, other, part) for part in sentence[1:]])
    if head == "often":
        return (head, exchanged(tongue, other, sentence[1]), sentence[2])
    if head == "without" or head == "begins" or head == "ends":
        return (head, exchanged(tongue, other, sentence[1]))
    return sentence
