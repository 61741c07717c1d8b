"""Parts, steps and plans, the words that a step makes, and the row of tries of a plan."""

from wordrules.errors import TooMuch
from wordrules.machines import marked
from wordrules.sentences import is_told_word
from wordrules.signs import are_unlike

MOST_WORDS_OF_A_PART = 12
MOST_PARTS = 5
MOST_STEPS = 3
MOST_WORDS_MADE = 2000


def is_plan(tongue, thing):
    if not isinstance(thing, tuple) or len(thing) > MOST_STEPS:
        return False
    return all([is_step(tongue, step) for step in thing])


def is_step(tongue, thing):
    if not isinstance(thing, tuple) or not 1 <= len(thing) <= MOST_PARTS:
        return False
    return all([is_part(tongue, part) for part in thing]) and all([none_begins_another(part) for part in thing[:-1]])


def is_part(tongue, thing):
    if not isinstance(thing, tuple) or len(thing) > MOST_WORDS_OF_A_PART:
        return False
    return all([is_told_word(tongue, word) for word in thing]) and are_unlike(thing)


def none_begins_another(part):
    return all([words_that_begin(part, word) == [word] for word in part])


def words_that_begin(part, text):
    return [word for word in part if text.startswith(word)]


def made(step):
    refuse_words(how_many_made(step))
    return put_together(step)


def tries(plan):
    refuse_words(sum([how_many_made(step) for step in plan]))
    found = []
    for step in plan:
        found.extend(put_together(step))
    return list(marked(found))


def refuse_words(many):
    if many > MOST_WORDS_MADE:
        raise TooMuch("too many words")


def how_many_made(step):
    product = 1
    for part in step:
        product = product * len(part)
    return product


def put_together(step):
    texts = [""]
    for part in step:
        texts = put_behind(texts, part)
    return texts


def put_behind(texts, part):
    found = []
    for text in texts:
        found.extend([text + word for word in part])
    return found
