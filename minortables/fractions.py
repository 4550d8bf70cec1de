"""Fractions (up, down) in lowest terms, and tables of them."""

from minortables.checks import has_lines, is_whole, need_table, numbers_of
from minortables.errors import NoTable


def common_measure(one, other):
    while other != 0:
        rest = one % other
        one = other
        other = rest
    return abs(one)


def lowest(up, down):
    measure = common_measure(up, down)
    # A sign stands above alone.
    if down < 0:
        measure = -measure
    return (up // measure, down // measure)


def has_fraction_form(thing):
    # Below 0 it may be, other than in is_fraction.
    if not isinstance(thing, tuple) or len(thing) != 2:
        return False
    if not is_whole(thing[0]) or not is_whole(thing[1]):
        return False
    return thing[1] > 0 and common_measure(thing[0], thing[1]) == 1


def is_fraction(thing):
    return has_fraction_form(thing) and thing[0] >= 0


def sum_of(one, other):
    return lowest(one[0] * other[1] + other[0] * one[1], one[1] * other[1])


def times_of(one, other):
    return lowest(one[0] * other[0], one[1] * other[1])


def less_of(one, other):
    return lowest(one[0] * other[1] - other[0] * one[1], one[1] * other[1])


def parted(one, other):
    return lowest(one[0] * other[1], one[1] * other[0])


def all_sum(some):
    told = (0, 1)
    for fraction in some:
        told = sum_of(told, fraction)
    return told


def all_times(some):
    told = (1, 1)
    for fraction in some:
        told = times_of(told, fraction)
    return told


def need_fraction_table(thing):
    if not has_lines(thing) or not all([has_fraction_form(number) for number in numbers_of(thing)]):
        raise NoTable("no table of fractions")


def row_as_fractions(row):
    return tuple([(number, 1) for number in row])


def as_fractions(table):
    need_table(table)
    return tuple([row_as_fractions(row) for row in table])


def row_of_ups(row):
    return tuple([up for up, down in row])


def as_whole(table):
    need_fraction_table(table)
    if any([down != 1 for up, down in numbers_of(table)]):
        return None
    return tuple([row_of_ups(row) for row in table])
