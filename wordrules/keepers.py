"""Keepers: a word that is changed again and again, under a rule that may be made harder."""

from wordrules.counts import counts
from wordrules.errors import Elder, Near, NoBack, NoFit, NoSentence, NoWord, TooMany
from wordrules.machines import is_end
from wordrules.making import machine_of, refuse_weight
from wordrules.rules import MOST_SENTENCES, keeps, rule_weight
from wordrules.sentences import is_sentence, weight
from wordrules.signs import is_word, row_of

MOST_SIGNS_TAKEN = 24


class Keeper:
    def __init__(self, rule, look_back, places):
        self.tongue = rule[0]
        self.sentences = list(rule[1])
        self.look_back = look_back
        self.places = places
        self.words = []
        self.deeds = []

    def rule(self):
        return (self.tongue, tuple(self.sentences))

    def taken(self):
        return list(self.words)

    def word(self):
        return self.words[-1] if len(self.words) > 0 else None

    def due(self):
        return self.word() is None or not keeps(self.rule(), self.word())

    def take(self, word):
        refuse_word(self.why_not(word))
        self.words.append(word)
        self.deeds.append("take")

    def why_not(self, thing):
        if not is_word(self.tongue, thing) or len(thing) > MOST_SIGNS_TAKEN:
            return "word"
        if not keeps(self.rule(), thing):
            return "fit"
        if thing in self.elder_words():
            return "elder"
        return "near" if self.is_near(thing) else None

    def elder_words(self):
        return self.words[max(0, len(self.words) - self.look_back):]

    def is_near(self, word):
        return self.is_as_long(len(word)) and how_unlike(self.word(), word) < self.places

    def is_as_long(self, n):
        return self.word() is not None and len(self.word()) == n

    def harder(self, sentence):
        if not is_sentence(self.tongue, sentence):
            raise NoSentence(len(self.sentences))
        if len(self.sentences) >= MOST_SENTENCES:
            raise TooMany("the rule has eight sentences")
        refuse_weight(rule_weight(self.rule()) * weight(self.tongue, sentence))
        self.sentences.append(sentence)
        self.deeds.append("harder")

    def undo(self):
        if len(self.deeds) == 0:
            raise NoBack("nothing to undo")
        if self.deeds.pop() == "take":
            self.words.pop()
        else:
            self.sentences.pop()

    # None of the elder words stands twice among them: each of them was none of as many ahead of it.
    def free(self, n):
        if not 0 <= n <= MOST_SIGNS_TAKEN:
            return 0
        elder = [word for word in self.elder_words() if len(word) == n]
        fit = [word for word in elder if keeps(self.rule(), word) and not self.is_near(word)]
        return self.how_many_fit(n) - len(fit)

    def how_many_fit(self, n):
        machine = machine_of(self.rule())
        if self.is_as_long(n):
            return rows_unlike(machine, row_of(self.tongue, self.word()), self.places)
        return counts(machine, n)[n]


def refuse_word(why):
    if why == "word":
        raise NoWord("no word of the tongue of at most 24 signs")
    if why == "fit":
        raise NoFit("a word that does not keep the rule")
    if why == "elder":
        raise Elder("one of the last words taken")
    if why == "near":
        raise Near("too near to the last word")


def how_unlike(one, other):
    return len([sign for sign, there in zip(one, other) if sign != there])


# How many rows, as long as this one and unlike it at so many places or more, the machine lets: sign by sign
# it is kept how many rows lead to which stand, and at how many places they are unlike, no more than asked.
def rows_unlike(machine, row, places):
    many = {(0, 0): 1}
    for sign in row:
        many = many_of_one_more(machine, many, sign, places)
    return sum([times for here, times in many.items() if is_end(machine, here[0]) and here[1] == places])


def many_of_one_more(machine, many, sign, places):
    more = {}
    for here, times in many.items():
        for other, there in enumerate(machine[1][here[0]]):
            if there is not None:
                unlike = here[1] if other == sign else min(here[1] + 1, places)
                more[(there, unlike)] = more.get((there, unlike), 0) + times
    return more
