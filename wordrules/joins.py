"""Both, either and the opposite of machines, told as least machines."""

from wordrules.errors import TooMuch
from wordrules.least import least
from wordrules.machines import explored, how_many_signs, is_end, led

MOST_PAIRS = 2500


def both(one, other):
    walked = pairs_and_goes(one, other)
    ends = [is_end(one, pair[0]) and is_end(other, pair[1]) for pair in walked[0]]
    return least((ends, walked[1]))


def either(one, other):
    walked = pairs_and_goes(one, other)
    ends = [is_end(one, pair[0]) or is_end(other, pair[1]) for pair in walked[0]]
    return least((ends, walked[1]))


# The pair of None and None is a stand like the others here: the least machine is without it.
def pairs_and_goes(one, other):
    refuse_above(MOST_PAIRS, one, other)
    return explored((0, 0), lambda pair: pairs_ahead(one, other, pair))


def refuse_above(most, one, other):
    if (len(one[0]) + 1) * (len(other[0]) + 1) > most:
        raise TooMuch("too many pairs of stands")


def pairs_ahead(one, other, pair):
    return [(led(one, pair[0], sign), led(other, pair[1], sign)) for sign in range(how_many_signs(one))]


# What led nowhere leads to one stand more, an end that is never left.
def opposite(machine):
    lost = len(machine[0])
    ends = [not end for end in machine[0]] + [True]
    goes = [without_none(ways, lost) for ways in machine[1]]
    return least((ends, goes + [[lost for way in machine[1][0]]]))


def without_none(ways, lost):
    return [lost if there is None else there for there in ways]
