"""The least machine of a machine.

The stands that are met and alive lie in parts, at first the ends and the others. A part is split
where a sign leads some of its stands, but not all, into a part that is being settled; where no
part is unsettled, just the stands that are alike lie in one part. The smaller half of a split is
the one to be settled next: so each stand is gone through few times, in large machines too.
"""

from wordrules.machines import alive, marked, met


def least(machine):
    part_of = parts_of_stands(machine, kept_stands(machine))
    if 0 not in part_of:
        return ([False], [[None for way in machine[1][0]]])
    return numbered(machine, part_of)


def kept_stands(machine):
    living = marked(alive(machine))
    return [stand for stand in met(machine) if stand in living]


# Both first parts are to be settled, not the smaller one alone: a sign may lead nowhere, so what
# it doesn't lead into the one needn't be led into the other.
def parts_of_stands(machine, kept):
    parts = first_parts(machine[0], kept)
    part_of = {}
    for number, part in enumerate(parts):
        for stand in part:
            part_of[stand] = number
    backs = ways_back_by_sign(machine[1], kept)
    unsettled = list(range(len(parts)))
    while len(unsettled) > 0:
        settled = list(parts[unsettled.pop()])
        for back in backs:
            found = leading_into(settled, back, part_of)
            for number, leading in found.items():
                if len(leading) < len(parts[number]):
                    unsettled.append(len(parts))
                    split_part(parts, part_of, number, leading)
    return part_of


def first_parts(ends, kept):
    parts = [{}, {}]
    for stand in kept:
        parts[0 if ends[stand] else 1][stand] = True
    return parts


def ways_back_by_sign(goes, kept):
    backs = [{} for way in goes[0]]
    for stand in kept:
        for sign, there in enumerate(goes[stand]):
            if there is not None:
                backs[sign].setdefault(there, []).append(stand)
    return backs


def leading_into(settled, back, part_of):
    found = {}
    for there in settled:
        for stand in back.get(there, []):
            found.setdefault(part_of[stand], []).append(stand)
    return found


def split_part(parts, part_of, number, leading):
    moved = leading
    if len(leading) * 2 > len(parts[number]):
        staying = marked(leading)
        moved = [stand for stand in parts[number] if stand not in staying]
    new = {}
    for stand in moved:
        parts[number].pop(stand)
        new[stand] = True
        part_of[stand] = len(parts)
    parts.append(new)


def numbered(machine, part_of):
    numbers = {part_of[0]: 0}
    firsts = [0]
    goes = []
    while len(goes) < len(firsts):
        stand = firsts[len(goes)]
        ways = []
        for there in machine[1][stand]:
            if there not in part_of:
                ways.append(None)
                continue
            if part_of[there] not in numbers:
                numbers[part_of[there]] = len(firsts)
                firsts.append(there)
            ways.append(numbers[part_of[there]])
        goes.append(ways)
    return ([machine[0][stand] for stand in firsts], goes)
