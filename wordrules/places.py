"""How many tries a plan has, the place of a word among them, the word at a place: all without going through them.

A word of a step is fresh where no elder step makes it; the tries are the fresh words, step by step. They are
counted part by part: how many come of the parts that are left hangs only on how far each elder step has read
what is put together so far.
"""

from wordrules.errors import NoNumber
from wordrules.plans import words_that_begin
from wordrules.things import is_whole


def how_many(plan):
    return sum([fresh_words(plan, number).whole() for number in range(len(plan))])


def place(plan, word):
    ahead = 0
    for number, step in enumerate(plan):
        places = places_in(step, word)
        if places is not None:
            return ahead + fresh_words(plan, number).ahead_of(places)
        ahead = ahead + fresh_words(plan, number).whole()
    return None


def try_at(plan, number):
    if not is_whole(number) or number < 0:
        raise NoNumber("no whole number from 0 on")
    left = number
    for step_number, step in enumerate(plan):
        words = fresh_words(plan, step_number)
        if left < words.whole():
            return "".join([part[there] for part, there in zip(step, words.places_at(left))])
        left = left - words.whole()
    raise NoNumber("beyond the last try")


def fresh_words(plan, number):
    return Tally(plan[number], Fresh(plan[:number]))


def places_in(step, word):
    words = words_read(step[:-1], word)
    rest = word[len("".join(words)):]
    if len(words) < len(step) - 1 or rest not in step[-1]:
        return None
    return [part.index(one) for part, one in zip(step, words + [rest])]


# At most one word of a part begins a text, as none of them begins with another one.
def words_read(parts, text):
    words = []
    rest = text
    for part in parts:
        fit = words_that_begin(part, rest)
        if len(fit) == 0:
            break
        words.append(fit[0])
        rest = rest[len(fit[0]):]
    return words


# How far a step has read a text: the number of parts read whole, and what is left, with which a word of
# the next part begins; None where the step makes no word that begins so.
def read_on(step, far, text):
    if far is None:
        return None
    rest = far[1] + text
    words = words_read(step[far[0]:-1], rest)
    number = far[0] + len(words)
    rest = rest[len("".join(words)):]
    return (number, rest) if any([word.startswith(rest) for word in step[number]]) else None


def is_read(step, far):
    return far is not None and far[0] == len(step) - 1 and far[1] in step[-1]


class Fresh:
    def __init__(self, elder):
        self.elder = elder

    def at_first(self):
        return tuple([(0, "") for step in self.elder])

    def further(self, mind, word):
        return tuple([read_on(step, far, word) for step, far in zip(self.elder, mind)])

    def passes(self, mind):
        return not any([is_read(step, far) for step, far in zip(self.elder, mind)])


# Counts the words of a step that a sieve passes. What the sieve keeps in mind of a text is told by it, at first
# and behind each further word; None where it passes nothing that begins so.
class Tally:
    def __init__(self, step, sieve):
        self.step = step
        self.sieve = sieve
        self.known = {}

    def whole(self):
        return self.many_from(0, self.sieve.at_first())

    def many_from(self, number, mind):
        if mind is None:
            return 0
        if number == len(self.step):
            return 1 if self.sieve.passes(mind) else 0
        if (number, mind) not in self.known:
            self.known[(number, mind)] = self.by_first(number, mind, len(self.step[number]))
        return self.known[(number, mind)]

    def by(self, number, mind, word):
        return self.many_from(number + 1, self.sieve.further(mind, word))

    def by_first(self, number, mind, many):
        return sum([self.by(number, mind, word) for word in self.step[number][:many]])

    def ahead_of(self, places):
        many = 0
        mind = self.sieve.at_first()
        for number, there in enumerate(places):
            many = many + self.by_first(number, mind, there)
            mind = self.sieve.further(mind, self.step[number][there])
        return many

    def places_at(self, number):
        places = []
        mind = self.sieve.at_first()
        left = number
        for part in self.step:
            there = self.place_within(len(places), mind, left)
            left = left - self.by_first(len(places), mind, there)
            mind = self.sieve.further(mind, part[there])
            places.append(there)
        return places

    def place_within(self, number, mind, left):
        there = 0
        while left >= self.by_first(number, mind, there + 1):
            there = there + 1
        return there
