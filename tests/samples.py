"""Machines for the tests, and what the document says of least ones, asked in the plainest way."""
import itertools
import random


def rows_up_to(many, most):
    return [list(row) for length in range(most + 1) for row in itertools.product(range(many), repeat=length)]


def walked(machine, stand, row):
    for sign in row:
        if stand is None:
            return None
        stand = machine[1][stand][sign]
    return stand


def let(machine, row):
    stand = walked(machine, 0, row)
    return stand is not None and machine[0][stand]


def met_stands(machine):
    stands = {0}
    for _ in machine[0]:
        stands |= {there for stand in stands for there in machine[1][stand] if there is not None}
    return sorted(stands)


def alive_stands(machine):
    stands = {stand for stand, end in enumerate(machine[0]) if end}
    for _ in machine[0]:
        stands |= {stand for stand, ways in enumerate(machine[1]) if set(ways) & stands}
    return sorted(stands)


def let_the_same(one, other):
    """Whether two machines for as many signs let the same rows: all pairs that are met together are walked."""
    seen = {(0, 0)}
    ahead = [(0, 0)]
    while ahead:
        s, t = ahead.pop()
        if (s is not None and one[0][s]) != (t is not None and other[0][t]):
            return False
        for sign in range(len(one[1][0])):
            there = (walked(one, s, [sign]), walked(other, t, [sign]))
            if there not in seen:
                seen.add(there)
                ahead.append(there)
    return True


def alike_stands(machine):
    """The pairs of unlike stands from which just the same rows lead to ends."""
    return [(s, t) for s, t in itertools.combinations(range(len(machine[0])), 2)
            if let_the_same(starting_at(machine, s), starting_at(machine, t))]


def starting_at(machine, first):
    """The machine with stands 0 and first exchanged."""
    swap = {0: first, first: 0}
    order = [swap.get(stand, stand) for stand in range(len(machine[0]))]
    return ([machine[0][stand] for stand in order],
            [[there if there is None else swap.get(there, there) for there in machine[1][stand]] for stand in order])


def first_met_order(machine):
    order = [0]
    for stand in order:
        for there in machine[1][stand]:
            if there is not None and there not in order:
                order.append(there)
    return order


def cycle(stands, many=1):
    """Lets the rows whose length is divided by the number of stands."""
    return ([stand == 0 for stand in range(stands)], [[(stand + 1) % stands] * many for stand in range(stands)])


def chain(stands, many=1):
    """Lets just the rows of one number fewer than there are stands."""
    return ([stand == stands - 1 for stand in range(stands)],
            [[stand + 1 if stand + 1 < stands else None] * many for stand in range(stands)])


def with_stands(machine, stands):
    """The same machine with stands more that are never met, so many in all."""
    many = len(machine[1][0])
    more = stands - len(machine[0])
    return (machine[0] + [True] * more, [list(ways) for ways in machine[1]] + [[0] * many for _ in range(more)])


def all_machines(many, stands):
    choices = [None] + list(range(stands))
    for ends in itertools.product((True, False), repeat=stands):
        for flat in itertools.product(choices, repeat=stands * many):
            yield (list(ends), [list(flat[stand * many:(stand + 1) * many]) for stand in range(stands)])


def some_machines(seed, times, most_stands, most_signs=3):
    draw = random.Random(seed)
    for _ in range(times):
        stands = draw.randint(1, most_stands)
        many = draw.randint(1, most_signs)
        nones = draw.choice((0, 1, stands))
        ends = [draw.random() < 0.4 for _ in range(stands)]
        choices = list(range(stands)) + [None] * nones
        yield (ends, [[draw.choice(choices) for _ in range(many)] for _ in range(stands)])


def rows_let_from(machine, stand, length):
    """The rows of so many numbers that lead from the stand to an end, gone through one by one."""
    return [list(row) for row in itertools.product(range(len(machine[1][0])), repeat=length)
            if ends_at(machine, walked(machine, stand, row))]


def ends_at(machine, stand):
    return stand is not None and machine[0][stand]


def rows_let_up_to(machine, most):
    return [row for length in range(most + 1) for row in rows_let_from(machine, 0, length)]


def few_machines():
    """All machines of one or two stands for one or two signs, and some larger ones."""
    found = [machine for many, stands in ((1, 1), (2, 1), (1, 2), (2, 2)) for machine in all_machines(many, stands)]
    return found + list(some_machines(61, 120, 5))
