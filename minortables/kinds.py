"""Kinds of tables, among them good ones and very good ones."""

from minortables.checks import MOST_LINES, need_size


def power_row(number, many):
    # 1 comes first, of 0 too.
    row = [1]
    for place in range(many - 1):
        row.append(row[-1] * number)
    return tuple(row)


def powers(numbers):
    need_size(len(numbers), MOST_LINES)
    return tuple([power_row(number, len(numbers)) for number in numbers])


def row_of_sums(above):
    row = [1]
    for number in above[1:]:
        row.append(number + row[-1])
    return tuple(row)


def by_sums(many):
    need_size(many, MOST_LINES)
    rows = [(1,) * many]
    for place in range(many - 1):
        rows.append(row_of_sums(rows[-1]))
    return tuple(rows)


def row_of_lesser(number, numbers):
    return tuple([min(number, other) for other in numbers])


def lesser(numbers):
    need_size(len(numbers), MOST_LINES)
    return tuple([row_of_lesser(number, numbers) for number in numbers])


def begun_at(column, some, many):
    # The list may be longer than what is left of the row, or shorter.
    return ((0,) * column + tuple(some) + (0,) * many)[:many]


def scaled(numbers):
    many = len(numbers)
    need_size(many, MOST_LINES)
    return tuple([begun_at(place, [number], many) for place, number in enumerate(numbers)])


def of_factors(numbers):
    told = [1]
    for number in numbers:
        told = [one + number * other for one, other in zip(told + [0], [0] + told)]
    return told


def rolled(some, many):
    need_size(many, MOST_LINES)
    return tuple([begun_at(row, some, many) for row in range(many)])


def heap_sums(numbers, weights, many):
    told = [0] * many
    for number, weight in zip(numbers, weights):
        told = [heap + weight * power for heap, power in zip(told, power_row(number, many))]
    return told


def heaped(numbers, weights, many):
    need_size(many, MOST_LINES)
    # Row and column matter together alone, and come to no more than twice the last of them.
    heaps = heap_sums(numbers, weights, 2 * many - 1)
    return tuple([tuple(heaps[row:row + many]) for row in range(many)])
