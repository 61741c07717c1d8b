"""The span of a machine: no row, none longer than some number, or rows as long as one likes."""

from wordrules.least import kept_stands
from wordrules.machines import are_signs, are_stands, first_row, gone, is_end, marked, met, ways_back
from wordrules.things import is_whole


def span(machine):
    kept = kept_stands(machine)
    if len(kept) == 0:
        return ("none", met(machine))
    ranks = ranks_of(machine[1], kept)
    if ranks[0] is None:
        return endless(machine, marked([stand for stand in kept if ranks[stand] is None]))
    return ("last", ranks)


# A stand has its rank once all those to which it leads have theirs: one on a ring, or ahead of
# a ring, never has.
def ranks_of(goes, kept):
    left = ways_to_kept(goes, kept)
    backs = ways_back(goes)
    ranks = [None for ways in goes]
    ready = [stand for stand in kept if left[stand] == 0]
    while len(ready) > 0:
        here = ready.pop()
        ranks[here] = rank_of(goes[here], ranks)
        for before in backs[here]:
            if before in left:
                left[before] = left[before] - 1
                if left[before] == 0:
                    ready.append(before)
    return ranks


def ways_to_kept(goes, kept):
    many = {}
    for stand in kept:
        many[stand] = 0
    for stand in kept:
        many[stand] = len([there for there in goes[stand] if there in many])
    return many


def rank_of(ways, ranks):
    return max([ranks[there] + 1 for there in ways if there is not None and ranks[there] is not None], default=0)


# Each stand without a rank leads to such a one again: so one comes back to one of them.
def endless(machine, unranked):
    places = {}
    row = []
    here = 0
    while here not in places:
        places[here] = len(row)
        sign = first_sign_to(machine[1][here], unranked)
        row.append(sign)
        here = machine[1][here][sign]
    return ("endless", row[:places[here]], row[places[here]:], first_row(machine, here))


def first_sign_to(ways, stands):
    return [sign for sign, there in enumerate(ways) if there in stands][0]


def holds_span(machine, thing):
    if not isinstance(thing, tuple) or len(thing) == 0 or not isinstance(thing[0], str):
        return False
    if thing[0] == "none":
        return len(thing) == 2 and holds_none(machine, thing[1])
    if thing[0] == "last":
        return len(thing) == 2 and holds_last(machine, thing[1])
    return thing[0] == "endless" and len(thing) == 4 and holds_endless(machine, thing[1], thing[2], thing[3])


def holds_none(machine, part):
    if not are_stands(machine, part) or len(set(part)) != len(part) or 0 not in part:
        return False
    told = marked(part)
    return all([not machine[0][stand] and leads_into(machine[1][stand], told) for stand in part])


def leads_into(ways, told):
    return all([there is None or there in told for there in ways])


def holds_last(machine, ranks):
    if not isinstance(ranks, list) or len(ranks) != len(machine[0]):
        return False
    if not all([rank is None or (is_whole(rank) and rank >= 0) for rank in ranks]) or ranks[0] is None:
        return False
    for stand, rank in enumerate(ranks):
        if rank is not None and not leads_down(machine[1][stand], ranks, rank):
            return False
    return all([is_left(machine, ranks, stand) for stand in met(machine) if ranks[stand] is None])


def leads_down(ways, ranks, rank):
    return all([there is None or ranks[there] is None or ranks[there] < rank for there in ways])


def is_left(machine, ranks, stand):
    return not machine[0][stand] and all([there is None or ranks[there] is None for there in machine[1][stand]])


def holds_endless(machine, ahead, again, behind):
    if not are_signs(machine, ahead) or not are_signs(machine, again) or not are_signs(machine, behind):
        return False
    here = gone(machine, 0, ahead)
    if len(again) == 0 or here is None or gone(machine, here, again) != here:
        return False
    return is_end(machine, gone(machine, here, behind))
