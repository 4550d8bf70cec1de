"""Signs: how often they change along rows, and along what tables lead these to."""

from minortables.checks import need_table
from minortables.errors import NoFit
from minortables.tables import row_by_column, rows_out_of


def least_changes(numbers):
    kept = [number for number in numbers if number != 0]
    return len([one for one, other in zip(kept, kept[1:]) if (one < 0) != (other < 0)])


def changes_behind(sign, numbers):
    # Each 0 takes the sign that is not ahead of it: no other choice leads to more changes.
    changes = 0
    for number in numbers:
        if sign * number <= 0:
            sign = -sign
            changes = changes + 1
    return changes


def most_changes(numbers):
    if len(numbers) == 0:
        return 0
    firsts = [sign for sign in (1, -1) if sign * numbers[0] >= 0]
    return max([changes_behind(sign, numbers[1:]) for sign in firsts])


def led(table, numbers):
    need_table(table)
    if len(table[0]) != len(numbers):
        raise NoFit("not as many numbers as columns")
    return tuple([row_by_column(row, numbers) for row in table])


def all_rows(many, most):
    return rows_out_of(list(range(-most, most + 1)), many)


def row_with_more(table, most):
    need_table(table)
    for row in all_rows(len(table[0]), most):
        if least_changes(led(table, row)) > least_changes(row):
            return row
    return None
