"""Steps and plans for the tests, and their tries gone through one by one."""
import itertools

from tests.spoken import some_word


def words_of_step(step):
    return ["".join(words) for words in itertools.product(*step)]


def row_of_tries(plan):
    """The words of the steps, step by step, each where it comes first."""
    row = []
    seen = set()
    for step in plan:
        for word in words_of_step(step):
            if word not in seen:
                seen.add(word)
                row.append(word)
    return row


def some_part(draw, signs, most_words, most_signs, last):
    words = []
    for _ in range(draw.randint(0, 3 * most_words)):
        word = some_word(draw, signs, 1, most_signs)
        begun = [one for one in words if one.startswith(word) or word.startswith(one)]
        if len(words) < most_words and word not in words and (last or not begun):
            words.append(word)
    return tuple(words)


def some_step(draw, signs, most_parts=5, most_words=4, most_signs=3):
    parts = draw.randint(1, most_parts)
    return tuple(some_part(draw, signs, most_words, most_signs, number == parts - 1) for number in range(parts))


def recut(draw, step):
    """A step that makes some of the same words by other cuts: its first two parts are put together."""
    if len(step) == 1:
        return step
    together = tuple(one + other for one in step[0] for other in step[1])[draw.randint(0, 1):]
    fits = len(together) <= 12 and all(len(word) <= 6 for word in together)
    return (together,) + step[2:] if fits else step


def some_plan(draw, signs):
    steps = [some_step(draw, signs) for _ in range(draw.randint(0, 3))]
    if len(steps) > 1 and draw.random() < 0.7:
        steps[1] = draw.choice((steps[0], recut(draw, steps[0]), tuple(part[::-1] for part in steps[0])))
    if len(steps) > 2 and draw.random() < 0.7:
        steps[2] = draw.choice((steps[0], recut(draw, steps[1]), tuple(part[:2] for part in steps[0])))
    return tuple(steps)
