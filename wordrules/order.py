"""The words that a machine lets, numbered in their order: the word at a number, the number of a word."""

from wordrules.counts import table
from wordrules.errors import NoFit, NoNumber, NoWord
from wordrules.machines import lets
from wordrules.signs import MOST_SIGNS_OF_A_WORD, is_word, row_of, word_of
from wordrules.things import is_whole


def word_at(tongue, machine, number):
    if not is_whole(number) or number < 0:
        raise NoNumber("no whole number from 0 on")
    lists = table(machine, MOST_SIGNS_OF_A_WORD)
    left = number
    for length, numbers in enumerate(lists):
        if left < numbers[0]:
            return word_of(tongue, row_at(machine, lists, length, left))
        left = left - numbers[0]
    raise NoNumber("beyond the last word")


# From each stand the rows by the lesser signs come first: so many of them as the table tells.
def row_at(machine, lists, length, number):
    row = []
    here = 0
    left = number
    while len(row) < length:
        behind = lists[length - len(row) - 1]
        sign = 0
        while left >= rows_by(machine, here, sign, behind):
            left = left - rows_by(machine, here, sign, behind)
            sign = sign + 1
        row.append(sign)
        here = machine[1][here][sign]
    return row


def rows_by(machine, stand, sign, behind):
    there = machine[1][stand][sign]
    return 0 if there is None else behind[there]


def number_of(tongue, machine, word):
    if not is_word(tongue, word):
        raise NoWord("no word of the tongue")
    row = row_of(tongue, word)
    if not lets(machine, row):
        raise NoFit("a word that is not let")
    lists = table(machine, len(row))
    shorter = sum([numbers[0] for numbers in lists[:len(row)]])
    return shorter + rows_ahead(machine, lists, row)


def rows_ahead(machine, lists, row):
    many = 0
    here = 0
    for place, sign in enumerate(row):
        behind = lists[len(row) - place - 1]
        many = many + sum([rows_by(machine, here, lesser, behind) for lesser in range(sign)])
        here = machine[1][here][sign]
    return many
