"""Plans and their steps, written as texts and read."""

from wordrules.errors import NoText
from wordrules.plans import is_plan, is_step
from wordrules.texts import number_ahead, word_ahead


def show_plan(plan):
    return "\n".join(["plan"] + [show_step(step) for step in plan])


def show_step(step):
    words = []
    for part in step:
        words.append(str(len(part)))
        words.extend(part)
    return " ".join(words)


def read_plan(tongue, text):
    if not isinstance(text, str):
        raise NoText("no text")
    lines = text.split("\n")
    plan = tuple([step_of(line) for line in lines[1:]])
    if lines[0] != "plan" or not is_plan(tongue, plan):
        raise NoText("no plan of the tongue")
    return plan


def read_step(tongue, text):
    step = step_of(text)
    if not is_step(tongue, step):
        raise NoText("no step of the tongue")
    return step


def step_of(text):
    left = text.split(" ")
    parts = []
    while len(left) > 0:
        parts.append(part_ahead(left))
    return tuple(parts)


def part_ahead(left):
    many = number_ahead(left)
    if many > len(left):
        raise NoText("fewer words than told")
    return tuple([word_ahead(left) for place in range(many)])
