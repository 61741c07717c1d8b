"""Rules and their sentences, written as texts and read."""

from wordrules.errors import NoText
from wordrules.rules import is_rule
from wordrules.sentences import MOST_DEEP, how_many_parts, is_sentence

FIGURES = "0123456789"
MOST_FIGURES = 80


def show_rule(rule):
    lines = [" ".join(["signs"] + list(rule[0]))]
    return "\n".join(lines + [show_sentence(sentence) for sentence in rule[1]])


def show_sentence(sentence):
    return " ".join([show_field(field) for field in sentence])


def show_field(field):
    if field is None:
        return "-"
    return show_sentence(field) if isinstance(field, tuple) else str(field)


def read_rule(text):
    if not isinstance(text, str):
        raise NoText("no text")
    lines = text.split("\n")
    words = lines[0].split(" ")
    rule = (tuple(words[1:]), tuple([sentence_of(line) for line in lines[1:]]))
    if words[0] != "signs" or not is_rule(rule):
        raise NoText("no rule")
    return rule


def read_sentence(tongue, text):
    sentence = sentence_of(text)
    if not is_sentence(tongue, sentence):
        raise NoText("no sentence of the tongue")
    return sentence


def sentence_of(text):
    left = text.split(" ")
    sentence = sentence_ahead(left, MOST_DEEP)
    if len(left) > 0:
        raise NoText("more than a sentence")
    return sentence


# The depth is bounded while it is read: a text may have some hundred parts in one another.
def sentence_ahead(left, deep):
    if deep == 0:
        raise NoText("sentences too deep in one another")
    head = word_ahead(left)
    many = how_many_parts(head)
    if many == 0:
        return tuple([head] + fields_ahead(head, left))
    return tuple([head] + [sentence_ahead(left, deep - 1) for part in range(many)])


def fields_ahead(head, left):
    if head == "long":
        return [number_ahead(left), high_ahead(left)]
    if head == "least":
        return [number_ahead(left), number_ahead(left)]
    if head == "often":
        return [word_ahead(left), number_ahead(left)]
    if head == "without" or head == "begins" or head == "ends":
        return [word_ahead(left)]
    if head == "apart":
        return []
    raise NoText("no sentence begins so")


# What is read is taken off the words that are left.
def word_ahead(left):
    if len(left) == 0:
        raise NoText("a word is missing")
    return left.pop(0)


def number_ahead(left):
    word = word_ahead(left)
    if not is_number_text(word):
        raise NoText("no number")
    return int(word)


def high_ahead(left):
    if left[:1] == ["-"]:
        left.pop(0)
        return None
    return number_ahead(left)


def is_number_text(text):
    if not 1 <= len(text) <= MOST_FIGURES or not all([sign in FIGURES for sign in text]):
        return False
    return text == "0" or not text.startswith("0")
