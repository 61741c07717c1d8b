"""How many of the first tries of a plan a machine lets, and which share of all that it lets they are."""

from wordrules.counts import counts, in_lowest_terms
from wordrules.machines import gone, is_end
from wordrules.places import Fresh, Tally
from wordrules.signs import row_of


def hits(tongue, plan, machine, n, most):
    many = 0
    left = n
    for number, step in enumerate(plan):
        if left <= 0:
            break
        fresh = Fresh(plan[:number])
        words = Tally(step, fresh)
        many = many + hits_of_step(words, Tally(step, Struck(tongue, machine, most, fresh)), left)
        left = left - words.whole()
    return many


def hits_of_step(words, struck, n):
    if n >= words.whole():
        return struck.whole()
    return struck.ahead_of(words.places_at(n))


def share_found(tongue, plan, machine, n, most):
    let = sum(counts(machine, most))
    return (0, 1) if let == 0 else in_lowest_terms(hits(tongue, plan, machine, n, most), let)


# Passes the fresh words that the machine lets, none of more than so many signs: in mind are the stand, how many
# signs may still come, and what is kept in mind of fresh words.
class Struck:
    def __init__(self, tongue, machine, most, fresh):
        self.tongue = tongue
        self.machine = machine
        self.most = most
        self.fresh = fresh

    def at_first(self):
        return (0, self.most, self.fresh.at_first())

    def further(self, mind, word):
        if mind is None or len(word) > mind[1]:
            return None
        stand = gone(self.machine, mind[0], row_of(self.tongue, word))
        return None if stand is None else (stand, mind[1] - len(word), self.fresh.further(mind[2], word))

    def passes(self, mind):
        return is_end(self.machine, mind[0]) and self.fresh.passes(mind[2])
