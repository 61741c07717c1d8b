"""Two machines compared, the one held against the other, and looking at the pairs that show it."""

from wordrules.joins import pairs_ahead, refuse_above
from wordrules.machines import explored, first_row, is_end, marked
from wordrules.things import is_whole_within

MOST_PAIRS_COMPARED = 10000


def compared(one, other):
    refuse_above(MOST_PAIRS_COMPARED, one, other)
    found = explored((0, 0), lambda pair: ahead_for_alike(one, other, pair))
    row = first_row(([not is_alike(one, other, pair) for pair in found[0]], found[1]), 0)
    return ("alike", found[0]) if row is None else ("unlike", row)


def within(one, other):
    refuse_above(MOST_PAIRS_COMPARED, one, other)
    found = explored((0, 0), lambda pair: ahead_for_within(one, other, pair))
    row = first_row(([not is_within(one, other, pair) for pair in found[0]], found[1]), 0)
    return ("within", found[0]) if row is None else ("out", row)


# What comes behind None and None is None and None again: it never parts the machines.
def ahead_for_alike(one, other, pair):
    return [None if there == (None, None) else there for there in pairs_ahead(one, other, pair)]


def ahead_for_within(one, other, pair):
    return [None if there[0] is None else there for there in pairs_ahead(one, other, pair)]


def is_alike(one, other, pair):
    return is_end(one, pair[0]) == is_end(other, pair[1])


def is_within(one, other, pair):
    return is_end(other, pair[1]) or not is_end(one, pair[0])


def holds_alike(one, other, pairs):
    if not are_pairs(one, other, pairs):
        return False
    told = marked(pairs)
    if (0, 0) not in told or not all([is_alike(one, other, pair) for pair in told]):
        return False
    return all([are_told(told, ahead_for_alike(one, other, pair)) for pair in told])


def holds_within(one, other, pairs):
    if not are_pairs(one, other, pairs):
        return False
    told = marked(pairs)
    if (0, 0) not in told or not all([pair[0] is not None and is_within(one, other, pair) for pair in told]):
        return False
    return all([are_told(told, ahead_for_within(one, other, pair)) for pair in told])


def are_pairs(one, other, thing):
    return isinstance(thing, list) and all([is_pair(one, other, pair) for pair in thing])


def is_pair(one, other, thing):
    if not isinstance(thing, tuple) or len(thing) != 2:
        return False
    return is_stand_or_none(one, thing[0]) and is_stand_or_none(other, thing[1])


def is_stand_or_none(machine, thing):
    return thing is None or is_whole_within(thing, 0, len(machine[0]) - 1)


def are_told(told, ahead):
    return all([there is None or there in told for there in ahead])
