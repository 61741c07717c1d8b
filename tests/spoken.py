"""Sentences for the tests, what they say asked in the plainest way, and how much work a call does."""
import itertools
import random
import sys

APART = ("apart",)


def words_up_to(signs, most):
    return ["".join(word) for many in range(most + 1) for word in itertools.product(signs, repeat=many)]


def is_so(tongue, sentence, word):
    """Whether the sentence holds for the word, by the words of the document."""
    head, *told = sentence
    if head == "not":
        return not is_so(tongue, told[0], word)
    if head == "both":
        return is_so(tongue, told[0], word) and is_so(tongue, told[1], word)
    if head == "either":
        return is_so(tongue, told[0], word) or is_so(tongue, told[1], word)
    return {
        "long": lambda: told[0] <= len(word) <= (len(word) if told[1] is None else told[1]),
        "least": lambda: sum(sign in tongue[told[0]] for sign in word) >= told[1],
        "often": lambda: all(word.count(sign) <= told[1] for sign in told[0]),
        "apart": lambda: not any(sign + sign in word for sign in word),
        "without": lambda: word.find(told[0]) == -1,
        "begins": lambda: word[:len(told[0])] == told[0],
        "ends": lambda: len(word) >= len(told[0]) and word[len(word) - len(told[0]):] == told[0],
    }[head]()


def numbers_of(tongue, word):
    return ["".join(tongue).index(sign) for sign in word]


def some_word(draw, signs, low, high):
    return "".join(draw.choice(signs) for _ in range(draw.randint(low, high)))


def simple_sentence(draw, tongue):
    signs = "".join(tongue)
    low = draw.randint(0, 5)
    head = draw.choice(("long", "least", "often", "apart", "without", "begins", "ends"))
    return {
        "long": ("long", low, draw.choice((None, low + draw.randint(0, 3)))),
        "least": ("least", draw.randrange(len(tongue)), draw.randint(0, 3)),
        "often": ("often", "".join(draw.sample(signs, draw.randint(1, min(2, len(signs))))), draw.randint(0, 2)),
        "apart": APART,
    }.get(head, (head, some_word(draw, signs, 1, 3)))


def some_sentence(draw, tongue, deep):
    if deep == 1 or draw.random() < 0.3:
        return simple_sentence(draw, tongue)
    head = draw.choice(("not", "both", "either"))
    parts = [some_sentence(draw, tongue, deep - 1) for _ in range(1 if head == "not" else 2)]
    return (head, *parts)


def how_many_sentences(sentence):
    return 1 + sum(how_many_sentences(part) for part in sentence[1:] if isinstance(part, tuple))


def some_sentences(seed, times, tongue, deep=4):
    draw = random.Random(seed)
    found = []
    while len(found) < times:
        sentence = some_sentence(draw, tongue, deep)
        if how_many_sentences(sentence) <= 9:
            found.append(sentence)
    return found


def calls_during(deed):
    """How many calls of Python's functions the deed makes."""
    made = [0]

    def count(frame, event, argument):
        made[0] += event == "call"

    before = sys.getprofile()
    sys.setprofile(count)
    try:
        deed()
    finally:
        sys.setprofile(before)
    return made[0]
