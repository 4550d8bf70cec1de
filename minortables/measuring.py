"""Measures: what tables have, counted, and powers of them."""

from minortables.checks import need_same_size, need_square, need_table, numbers_of
from minortables.errors import NoFit
from minortables.tables import columns_of, plain, times, turned


def line_sums(lines):
    return tuple([sum(line) for line in lines])


def sums(table):
    need_table(table)
    return (line_sums(table), line_sums(columns_of(table)))


def slant_sum(table):
    need_table(table)
    need_square(table)
    return sum([row[place] for place, row in enumerate(table)])


def signs_in(table):
    need_table(table)
    numbers = numbers_of(table)
    below = len([number for number in numbers if number < 0])
    nought = numbers.count(0)
    return (below, nought, len(numbers) - below - nought)


def is_even(table):
    return turned(table) == table


def unlike_places(one, other):
    need_table(one)
    need_table(other)
    need_same_size(one, other)
    told = []
    for row in range(len(one)):
        for column in range(len(one[0])):
            if one[row][column] != other[row][column]:
                told.append((row, column))
    return told


def power(table, many):
    need_table(table)
    need_square(table)
    if many < 0:
        raise NoFit("no power below 0")
    told = plain(len(table))
    for often in range(many):
        told = times(told, table)
    return told


def go_together(one, other):
    need_table(one)
    need_table(other)
    need_square(one)
    need_same_size(one, other)
    return times(one, other) == times(other, one)
