"""How many rows a machine lets: tables of counts, looking at one, and shares."""

from wordrules.machines import how_many_signs
from wordrules.things import is_whole


def table(machine, most):
    lists = [numbers_of_none(machine)]
    while len(lists) <= most:
        lists.append(numbers_of_one_more(machine, lists[-1]))
    return lists


def numbers_of_none(machine):
    return [1 if end else 0 for end in machine[0]]


def numbers_of_one_more(machine, fewer):
    return [sum([fewer[there] for there in ways if there is not None]) for ways in machine[1]]


def counts(machine, most):
    return [numbers[0] for numbers in table(machine, most)]


def holds_table(machine, thing):
    if not isinstance(thing, list) or len(thing) == 0:
        return False
    if not all([are_numbers(len(machine[0]), numbers) for numbers in thing]):
        return False
    if thing[0] != numbers_of_none(machine):
        return False
    return all([thing[most] == numbers_of_one_more(machine, thing[most - 1]) for most in range(1, len(thing))])


def are_numbers(many, thing):
    return isinstance(thing, list) and len(thing) == many and all([is_whole(number) for number in thing])


def share(machine, n):
    return in_lowest_terms(counts(machine, n)[n], rows_of(how_many_signs(machine), n))


def rows_of(many, length):
    product = 1
    for place in range(length):
        product = product * many
    return product


def in_lowest_terms(top, bottom):
    common = bottom
    rest = top
    while rest > 0:
        left = common % rest
        common = rest
        rest = left
    return (top // common, bottom // common)
