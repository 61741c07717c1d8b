"""Questions about a thing of whatever kind, for all other files."""


# Python counts True and False among its ints; here they are no numbers.
def is_whole(thing):
    return isinstance(thing, int) and not isinstance(thing, bool)


def is_whole_within(thing, low, high):
    return is_whole(thing) and low <= thing <= high
