"""Minors: what the square parts of tables come to."""

from minortables.checks import need_place, need_places, need_size, need_square, need_table
from minortables.errors import NoFit
from minortables.tables import columns_of, part_at


def without(table, row, column):
    rows = table[:row] + table[row + 1:]
    return tuple([kept[:column] + kept[column + 1:] for kept in rows])


def worth_of(table):
    # Where nothing is left the worth is 1, so a single number comes to itself.
    if len(table) == 0:
        return 1
    return sum([number * rest for number, rest in row_with_rests(table, 0)])


def rest_worth(table, row, column):
    return worth_of(without(table, row, column))


def signed_rest(table, row, column):
    worth = rest_worth(table, row, column)
    return -worth if (row + column) % 2 == 1 else worth


def row_with_rests(table, row):
    return [(number, signed_rest(table, row, column)) for column, number in enumerate(table[row])]


def with_behind(places, many):
    first = places[-1] + 1 if len(places) > 0 else 0
    return [places + (place,) for place in range(first, many)]


def rising_tuples(many, size):
    # Each is lengthened in its turn, so they stay in rising order.
    told = [()]
    for length in range(size):
        longer = []
        for places in told:
            longer.extend(with_behind(places, many))
        told = longer
    return told


def greatest_size(table):
    return min(len(table), len(table[0]))


def minors_of_rows(table, rows):
    told = []
    for columns in rising_tuples(len(table[0]), len(rows)):
        told.append((rows, columns, worth_of(part_at(table, rows, columns))))
    return told


def minors_of_size(table, size):
    told = []
    for rows in rising_tuples(len(table), size):
        told.extend(minors_of_rows(table, rows))
    return told


def minors_in(table):
    # Nothing is refused here: within the program there are tables of more than 4 rows or columns.
    told = []
    for size in range(1, greatest_size(table) + 1):
        told.extend(minors_of_size(table, size))
    return told


def all_minors(table):
    need_table(table)
    return minors_in(table)


def whole_minor(table):
    need_table(table)
    need_square(table)
    return worth_of(table)


def minor(table, rows, columns):
    need_table(table)
    need_places(rows, len(table))
    need_places(columns, len(table[0]))
    if len(rows) != len(columns):
        raise NoFit("not as many rows as columns")
    return worth_of(part_at(table, rows, columns))


def rank(table):
    return max([len(rows) for rows, columns, worth in all_minors(table) if worth != 0], default=0)


def worths_of_rows(table, rows):
    return tuple([worth for same, columns, worth in minors_of_rows(table, rows)])


def pairs(table, size):
    need_table(table)
    need_size(size, greatest_size(table))
    return tuple([worths_of_rows(table, rows) for rows in rising_tuples(len(table), size)])


def by_row(table, row):
    need_table(table)
    need_square(table)
    need_place(row, len(table))
    return row_with_rests(table, row)


def signed_rests(table, row):
    return tuple([signed_rest(table, row, column) for column in range(len(table))])


def rest_worths(table, row):
    return tuple([rest_worth(table, row, column) for column in range(len(table))])


def turned_back(table):
    need_table(table)
    need_square(table)
    return columns_of(tuple([signed_rests(table, row) for row in range(len(table))]))


def unsigned_back(table):
    need_table(table)
    need_square(table)
    return columns_of(tuple([rest_worths(table, row) for row in range(len(table))]))
