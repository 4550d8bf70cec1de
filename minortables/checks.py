"""What may be handed in, and the refusals of what may not."""

from minortables.errors import NoFit, NoPlace, NoTable

MOST_LINES = 4


def is_whole(thing):
    # Python counts truths among its ints, tables do not.
    return isinstance(thing, int) and not isinstance(thing, bool)


def is_whole_within(thing, least, most):
    return is_whole(thing) and least <= thing <= most


def is_short_tuple(thing):
    return isinstance(thing, tuple) and 1 <= len(thing) <= MOST_LINES


def has_lines(thing):
    if not is_short_tuple(thing) or not all([is_short_tuple(row) for row in thing]):
        return False
    return all([len(row) == len(thing[0]) for row in thing])


def numbers_of(table):
    told = []
    for row in table:
        told.extend(row)
    return told


def has_table_form(thing):
    return has_lines(thing) and all([is_whole(number) for number in numbers_of(thing)])


def is_square(table):
    return len(table) == len(table[0])


def is_place(thing, many):
    return is_whole_within(thing, 0, many - 1)


def are_rising_places(thing, many):
    if not isinstance(thing, tuple) or len(thing) == 0:
        return False
    if not all([is_place(place, many) for place in thing]):
        return False
    return all([one < other for one, other in zip(thing, thing[1:])])


def need_table(thing):
    # Numbers of any size pass here: only is_table bounds them.
    if not has_table_form(thing):
        raise NoTable("no table")


def need_square(table):
    if not is_square(table):
        raise NoFit("not as many rows as columns")


def need_same_size(one, other):
    if len(one) != len(other) or len(one[0]) != len(other[0]):
        raise NoFit("unlike sizes")


def need_place(thing, many):
    if not is_place(thing, many):
        raise NoPlace("no such row or column")


def need_places(thing, many):
    if not are_rising_places(thing, many):
        raise NoPlace("no rising tuple of rows or columns")


def need_size(thing, most):
    if not is_whole_within(thing, 1, most):
        raise NoFit("no such size")
