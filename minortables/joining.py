"""Tables put together, and rows exchanged and added."""

from minortables.checks import MOST_LINES, need_place, need_size, need_table
from minortables.errors import NoFit, NoPlace
from minortables.tables import row_plus, turned


def set_below(one, other):
    need_table(one)
    need_table(other)
    if len(one[0]) != len(other[0]):
        raise NoFit("not as long")
    need_size(len(one) + len(other), MOST_LINES)
    return one + other


def set_beside(one, other):
    return turned(set_below(turned(one), turned(other)))


def set_aslant(one, other):
    need_table(one)
    need_table(other)
    need_size(len(one) + len(other), MOST_LINES)
    need_size(len(one[0]) + len(other[0]), MOST_LINES)
    first = [row + (0,) * len(other[0]) for row in one]
    last = [(0,) * len(one[0]) + row for row in other]
    return tuple(first + last)


def need_two_rows(table, one, other):
    need_table(table)
    need_place(one, len(table))
    need_place(other, len(table))


def rows_exchanged(table, one, other):
    need_two_rows(table, one, other)
    rows = list(table)
    rows[one] = table[other]
    rows[other] = table[one]
    return tuple(rows)


def row_added(table, one, other, many):
    need_two_rows(table, one, other)
    if one == other:
        raise NoPlace("the same row")
    rows = list(table)
    rows[other] = row_plus(table[other], [many * number for number in table[one]])
    return tuple(rows)
