"""Good tables: those that have no minor below nought."""

from minortables.checks import need_square, need_table
from minortables.fractions import less_of, lowest
from minortables.minors import all_minors, greatest_size, minors_in, rest_worth
from minortables.tables import part_at, rows_out_of


def none_below(minors):
    return all([worth >= 0 for rows, columns, worth in minors])


def all_above(minors):
    return all([worth > 0 for rows, columns, worth in minors])


def first_bad(table):
    for found in all_minors(table):
        if found[2] < 0:
            return found
    return None


def is_good(table):
    return none_below(all_minors(table))


def is_very_good(table):
    return all_above(all_minors(table))


def how_good(table):
    bad = first_bad(table)
    if bad is None:
        return greatest_size(table)
    # Small minors come first, so all that are smaller than the first bad one are in order.
    return len(bad[0]) - 1


def are_in_a_row(places):
    return places[-1] - places[0] == len(places) - 1


def is_solid(found):
    return are_in_a_row(found[0]) and are_in_a_row(found[1])


def is_at_first(found):
    return found[0][0] == 0 or found[1][0] == 0


def solid_minors(table):
    return [found for found in all_minors(table) if is_solid(found)]


def first_minors(table):
    return [found for found in solid_minors(table) if is_at_first(found)]


def is_very_good_by_few(table):
    need_table(table)
    need_square(table)
    return all_above(first_minors(table))


def room_by_parts(table):
    told = []
    for rows, columns, worth in all_minors(table):
        if rows[0] == 0 and columns[0] == 0:
            rest = rest_worth(part_at(table, rows, columns), 0, 0)
            # Each 1 less at the corner is the rest less of the minor: where the rest is 0 it stays as it is.
            if rest > 0:
                told.append(lowest(worth, rest))
    return told


def corner_room(table):
    if not is_good(table):
        return None
    least = (table[0][0], 1)
    for room in room_by_parts(table):
        if less_of(room, least)[0] < 0:
            least = room
    return least


def good_with_one_more(table, rows):
    longer = [table + (row,) for row in rows]
    return [more for more in longer if none_below(minors_in(more))]


def how_many_of_bits(rows, columns):
    lines = rows_out_of([0, 1], columns)
    # The first rows of a good table are a good table, so none is passed over.
    good = [()]
    for row in range(rows):
        longer = []
        for table in good:
            longer.extend(good_with_one_more(table, lines))
        good = longer
    return len(good)
