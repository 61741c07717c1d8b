"""The first row that a machine lets, and looking at layers that show that no shorter one is let."""

from wordrules.machines import are_signs, are_stands, came_from, first_row, lets


def shortest(machine):
    layers = layers_of(came_from(machine[1], 0))
    row = first_row(machine, 0)
    if row is None:
        return ("none", layers)
    return ("row", row, layers[:len(row) + 1])


def layers_of(came):
    lengths = {}
    layers = []
    for stand, before in came.items():
        lengths[stand] = 0 if before is None else lengths[before[0]] + 1
        if lengths[stand] == len(layers):
            layers.append([])
        layers[lengths[stand]].append(stand)
    return [sorted(layer) for layer in layers]


def holds_shortest(machine, thing):
    if not isinstance(thing, tuple) or len(thing) == 0 or not isinstance(thing[0], str):
        return False
    if thing[0] == "row":
        return len(thing) == 3 and holds_row(machine, thing[1], thing[2])
    return thing[0] == "none" and len(thing) == 2 and holds_none(machine, thing[1])


def holds_row(machine, row, layers):
    if not are_layers(machine, layers) or not are_signs(machine, row):
        return False
    return len(row) == len(layers) - 1 and lets(machine, row) and leads_on(machine, layers, len(layers) - 1)


def holds_none(machine, layers):
    return are_layers(machine, layers) and leads_on(machine, layers, len(layers))


def are_layers(machine, thing):
    if not isinstance(thing, list) or not all([are_stands(machine, layer) for layer in thing]):
        return False
    return len(thing) > 0 and 0 in thing[0]


# Where a stand is in several lists, the first one asks the most of it.
def leads_on(machine, layers, many):
    first = first_layers(layers)
    for stand, number in first.items():
        if number < many and (machine[0][stand] or not all_within(machine[1][stand], first, number + 1)):
            return False
    return True


def first_layers(layers):
    first = {}
    for number, layer in enumerate(layers):
        for stand in layer:
            first.setdefault(stand, number)
    return first


def all_within(ways, first, number):
    return all([there is None or (there in first and first[there] <= number) for there in ways])
