"""Machines: their form, where rows lead in them, which stands are met and alive, the first row to an end."""

from wordrules.signs import MOST_SIGNS
from wordrules.things import is_whole_within


def is_machine(many, thing):
    if not is_whole_within(many, 1, MOST_SIGNS) or not isinstance(thing, tuple) or len(thing) != 2:
        return False
    ends = thing[0]
    goes = thing[1]
    if not isinstance(ends, list) or not isinstance(goes, list):
        return False
    if len(ends) == 0 or len(goes) != len(ends) or not all([isinstance(end, bool) for end in ends]):
        return False
    return all([are_ways(many, len(ends), ways) for ways in goes])


def are_ways(many, stands, thing):
    if not isinstance(thing, list) or len(thing) != many:
        return False
    return all([there is None or is_whole_within(there, 0, stands - 1) for there in thing])


def how_many_signs(machine):
    return len(machine[1][0])


def are_stands(machine, thing):
    return are_numbers_below(len(machine[0]), thing)


def are_signs(machine, thing):
    return are_numbers_below(how_many_signs(machine), thing)


def are_numbers_below(many, thing):
    return isinstance(thing, list) and all([is_whole_within(number, 0, many - 1) for number in thing])


def is_end(machine, stand):
    return stand is not None and machine[0][stand]


def led(machine, stand, sign):
    return None if stand is None else machine[1][stand][sign]


def gone(machine, stand, row):
    here = stand
    for sign in row:
        here = led(machine, here, sign)
    return here


def lets(machine, row):
    return is_end(machine, gone(machine, 0, row))


def met(machine):
    return reached([0], machine[1])


def alive(machine):
    ends = machine[0]
    return reached([stand for stand in range(len(ends)) if ends[stand]], ways_back(machine[1]))


def ways_back(goes):
    backs = [[] for ways in goes]
    for stand, ways in enumerate(goes):
        for there in ways:
            if there is not None:
                backs[there].append(stand)
    return backs


def marked(things):
    marks = {}
    for thing in things:
        marks[thing] = True
    return marks


def reached(first, goes):
    seen = marked(first)
    ahead = list(first)
    while len(ahead) > 0:
        here = ahead.pop()
        for there in goes[here]:
            if there is not None and there not in seen:
                seen[there] = True
                ahead.append(there)
    return sorted(seen)


# Stands come into the dict by their first rows, the shorter ones first, then by their numbers: those
# of one length are gone on from in the order of their rows, sign by sign.
def came_from(goes, first):
    came = {first: None}
    ahead = [first]
    done = 0
    while done < len(ahead):
        here = ahead[done]
        for sign, there in enumerate(goes[here]):
            if there is not None and there not in came:
                came[there] = (here, sign)
                ahead.append(there)
        done = done + 1
    return came


def first_row(machine, stand):
    came = came_from(machine[1], stand)
    for there in came:
        if machine[0][there]:
            return row_to(came, there)
    return None


def row_to(came, stand):
    row = []
    before = came[stand]
    while before is not None:
        row.append(before[1])
        before = came[before[0]]
    return list(reversed(row))


# Whatever can stand for a stand may be explored: ahead tells for each sign what it leads to, or None.
def explored(first, ahead):
    numbers = {first: 0}
    found = [first]
    goes = []
    while len(goes) < len(found):
        here = found[len(goes)]
        ways = []
        for there in ahead(here):
            if there is not None and there not in numbers:
                numbers[there] = len(found)
                found.append(there)
            ways.append(None if there is None else numbers[there])
        goes.append(ways)
    return (found, goes)
