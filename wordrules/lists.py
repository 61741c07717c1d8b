"""Ways of changing a word, and lists of words changed by them."""

from wordrules.signs import is_word
from wordrules.things import is_whole_within

MOST_SIGNS_PUT = 3
MOST_SIGNS_CUT = 6


def is_way(tongue, thing):
    if not isinstance(thing, tuple) or len(thing) == 0 or not isinstance(thing[0], str):
        return False
    head = thing[0]
    if head == "plain" or head == "about" or head == "twice":
        return len(thing) == 1
    if head == "ahead" or head == "behind":
        return len(thing) == 2 and is_word_put(tongue, thing[1])
    if head == "cut":
        return len(thing) == 2 and is_whole_within(thing[1], 1, MOST_SIGNS_CUT)
    return head == "swap" and len(thing) == 3 and are_unlike_signs(tongue, thing[1], thing[2])


def is_word_put(tongue, thing):
    return is_word(tongue, thing) and 1 <= len(thing) <= MOST_SIGNS_PUT


def are_unlike_signs(tongue, one, other):
    return is_sign_of(tongue, one) and is_sign_of(tongue, other) and one != other


def is_sign_of(tongue, thing):
    return is_word(tongue, thing) and len(thing) == 1


def changed_word(way, word):
    head = way[0]
    if head == "about":
        return "".join(list(reversed(word)))
    if head == "swap":
        return word.replace(way[1], way[2])
    if head == "ahead":
        return way[1] + word
    if head == "behind":
        return word + way[1]
    if head == "twice":
        return word + word
    if head == "cut":
        return word[:way[1]]
    return word


def changed(words, ways):
    found = {}
    for way in ways:
        for word in words:
            found[changed_word(way, word)] = True
    return list(found)
