"""The machine of a sentence and the machine of a rule.

A sentence without parts is watched sign by sign: what has to be kept in mind of the word so far is a
stand, and None where the sentence can't hold any more, whatever comes.
"""

from wordrules.errors import TooMuch
from wordrules.joins import both, either, opposite
from wordrules.least import least
from wordrules.machines import explored
from wordrules.rules import rule_weight
from wordrules.sentences import weight
from wordrules.signs import signs_of

MOST_WEIGHT = 600


def sentence_machine(tongue, sentence):
    refuse_weight(weight(tongue, sentence))
    return built(tongue, sentence)


def machine_of(rule):
    refuse_weight(rule_weight(rule))
    machine = ([True], [[0 for sign in signs_of(rule[0])]])
    for sentence in rule[1]:
        machine = both(machine, built(rule[0], sentence))
    return machine


def refuse_weight(heavy):
    if heavy > MOST_WEIGHT:
        raise TooMuch("too great a weight")


# No join is refused here: a machine has no more stands than its weight tells, so at a weight of at
# most 600 there are at most 601 and 2 to multiply.
def built(tongue, sentence):
    head = sentence[0]
    if head == "not":
        return opposite(built(tongue, sentence[1]))
    if head == "both":
        return both(built(tongue, sentence[1]), built(tongue, sentence[2]))
    if head == "either":
        return either(built(tongue, sentence[1]), built(tongue, sentence[2]))
    return least(watched(tongue, sentence))


def watched(tongue, sentence):
    signs = signs_of(tongue)
    kept = explored(at_first(sentence), lambda mind: [kept_in_mind(tongue, sentence, mind, sign) for sign in signs])
    return ([holds_now(sentence, mind) for mind in kept[0]], kept[1])


def at_first(sentence):
    head = sentence[0]
    if head == "long" or head == "least":
        return 0
    if head == "often":
        return tuple([0 for sign in sentence[1]])
    return ""


def kept_in_mind(tongue, sentence, mind, sign):
    head = sentence[0]
    if head == "long":
        return one_longer(mind, sentence[1], sentence[2])
    if head == "least":
        return min(mind + 1, sentence[2]) if sign in tongue[sentence[1]] else mind
    if head == "often":
        return counted(mind, sentence[1], sentence[2], sign)
    if head == "apart":
        return None if sign == mind else sign
    if head == "begins":
        return begun(mind, sentence[1], sign)
    found = longest_begun(sentence[1], mind + sign)
    return None if head == "without" and found == sentence[1] else found


def one_longer(length, low, high):
    if high is None:
        return min(length + 1, low)
    return length + 1 if length < high else None


def counted(times, told, most, sign):
    more = [many + 1 if one == sign else many for many, one in zip(times, told)]
    return None if max(more) > most else tuple(more)


def begun(mind, word, sign):
    if mind == word:
        return mind
    return mind + sign if word.startswith(mind + sign) else None


# The longest end of the text with which the word begins; the text has no more signs than the word
# and one, as more of it is never kept in mind.
def longest_begun(word, text):
    for place in range(len(text)):
        if word.startswith(text[place:]):
            return text[place:]
    return ""


def holds_now(sentence, mind):
    head = sentence[0]
    if head == "long":
        return mind >= sentence[1]
    if head == "least":
        return mind == sentence[2]
    if head == "begins" or head == "ends":
        return mind == sentence[1]
    return True
