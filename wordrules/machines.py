"""Machines: their form, where a row leads in them, which stands are met and which are alive."""

from wordrules.signs import MOST_SIGNS
from wordrules.things import is_whole_within


def is_machine(many, thing):
    if not is_whole_within(many, 1, MOST_SIGNS) or not isinstance(thing, tuple) or len(thing) != 2:
        return False
    ends = thing[0]
    goes = thing[1]
    if not isinstance(ends, list) or not isinstance(goes, list):
        return False
    if len(ends) == 0 or len(goes) != len(ends) or not all([isinstance(end, bool) for end in ends]):
        return False
    return all([are_ways(many, len(ends), ways) for ways in goes])


def are_ways(many, stands, thing):
    if not isinstance(thing, list) or len(thing) != many:
        return False
    return all([there is None or is_whole_within(there, 0, stands - 1) for there in thing])


def is_end(machine, stand):
    return stand is not None and machine[0][stand]


def led(machine, stand, sign):
    return None if stand is None else machine[1][stand][sign]


def gone(machine, stand, row):
    here = stand
    for sign in row:
        here = led(machine, here, sign)
    return here


def lets(machine, row):
    return is_end(machine, gone(machine, 0, row))


def met(machine):
    return reached([0], machine[1])


def alive(machine):
    ends = machine[0]
    return reached([stand for stand in range(len(ends)) if ends[stand]], ways_back(machine[1]))


def ways_back(goes):
    backs = [[] for ways in goes]
    for stand, ways in enumerate(goes):
        for there in ways:
            if there is not None:
                backs[there].append(stand)
    return backs


def reached(first, goes):
    seen = {}
    for stand in first:
        seen[stand] = True
    ahead = list(first)
    while len(ahead) > 0:
        here = ahead.pop()
        for there in goes[here]:
            if there is not None and there not in seen:
                seen[there] = True
                ahead.append(there)
    return sorted(seen)
