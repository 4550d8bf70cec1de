"""Tables: what is one, and others made of them."""

from minortables.checks import MOST_LINES, has_table_form, is_whole_within
from minortables.checks import need_places, need_same_size, need_size, need_table
from minortables.errors import NoFit

MOST_NUMBER = 99


def is_small_row(row):
    return all([is_whole_within(number, -MOST_NUMBER, MOST_NUMBER) for number in row])


def is_table(thing):
    return has_table_form(thing) and all([is_small_row(row) for row in thing])


def column_of(table, column):
    return tuple([row[column] for row in table])


def columns_of(table):
    return tuple([column_of(table, column) for column in range(len(table[0]))])


def turned(table):
    need_table(table)
    return columns_of(table)


def flipped(table):
    need_table(table)
    return tuple([tuple(reversed(row)) for row in reversed(table)])


def picked(row, columns):
    return tuple([row[column] for column in columns])


def part_at(table, rows, columns):
    return tuple([picked(table[row], columns) for row in rows])


def part(table, rows, columns):
    need_table(table)
    need_places(rows, len(table))
    need_places(columns, len(table[0]))
    return part_at(table, rows, columns)


def row_by_column(row, column):
    return sum([one * other for one, other in zip(row, column)])


def row_by_columns(row, columns):
    return tuple([row_by_column(row, column) for column in columns])


def times(one, other):
    need_table(one)
    need_table(other)
    if len(one[0]) != len(other):
        raise NoFit("not as many columns as the other has rows")
    columns = columns_of(other)
    return tuple([row_by_columns(row, columns) for row in one])


def row_plus(row, other):
    return tuple([number + more for number, more in zip(row, other)])


def plus(one, other):
    need_table(one)
    need_table(other)
    need_same_size(one, other)
    return tuple([row_plus(row, more) for row, more in zip(one, other)])


def plain_row(many, place):
    return tuple([1 if column == place else 0 for column in range(many)])


def plain(many):
    need_size(many, MOST_LINES)
    return tuple([plain_row(many, row) for row in range(many)])


def rows_out_of(numbers, many):
    # Each is lengthened in its turn, so of rising numbers they come in rising order.
    told = [()]
    for place in range(many):
        longer = []
        for row in told:
            longer.extend([row + (number,) for number in numbers])
        told = longer
    return told
