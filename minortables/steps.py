"""Steps: single ones that make good tables, and tables taken apart to them."""

from minortables.checks import MOST_LINES, is_place, is_whole, is_whole_within, need_square, need_table
from minortables.errors import NoFit, NoStep, NoSteps
from minortables.fractions import all_sum, as_fractions, is_fraction, less_of, lowest
from minortables.fractions import need_fraction_table, parted, times_of
from minortables.good import is_good
from minortables.minors import worth_of
from minortables.tables import columns_of, plain, turned

UP = "up"
DOWN = "down"
SCALE = "scale"
TURNED_WORDS = {"up": "down", "down": "up", "scale": "scale"}


def is_step_of(many, word, place, share):
    if word == SCALE:
        return is_place(place, many) and is_fraction(share) and share[0] > 0
    return word in (UP, DOWN) and is_place(place, many - 1) and is_fraction(share)


def is_step(many, thing):
    if not is_whole(many) or not isinstance(thing, tuple) or len(thing) != 3:
        return False
    return is_step_of(many, thing[0], thing[1], thing[2])


def need_steps(many, steps):
    if not is_whole_within(many, 1, MOST_LINES):
        raise NoStep("no steps of so many rows")
    if not isinstance(steps, list) or not all([is_step(many, step) for step in steps]):
        raise NoStep("no list of steps")


def row_by_column(row, column):
    return all_sum([times_of(one, other) for one, other in zip(row, column)])


def row_by_columns(row, columns):
    return tuple([row_by_column(row, column) for column in columns])


def product_of(one, other):
    need_fraction_table(one)
    need_fraction_table(other)
    if len(one[0]) != len(other):
        raise NoFit("not as many columns as the other has rows")
    columns = columns_of(other)
    return tuple([row_by_columns(row, columns) for row in one])


def table_of_step(many, word, place, share):
    lines = [list(row) for row in as_fractions(plain(many))]
    row = place + 1 if word == DOWN else place
    column = place + 1 if word == UP else place
    lines[row][column] = share
    return tuple([tuple(line) for line in lines])


def made_by(many, steps):
    need_steps(many, steps)
    made = as_fractions(plain(many))
    for word, place, share in steps:
        made = product_of(made, table_of_step(many, word, place, share))
    return made


def turned_steps(steps):
    return [(TURNED_WORDS[word], place, share) for word, place, share in reversed(steps)]


def flipped_step(many, word, place, share):
    # A step beside the slant has one place less to stand at, and its number goes to the slant's other side.
    last = many - 1 if word == SCALE else many - 2
    return (TURNED_WORDS[word], last - place, share)


def flipped_steps(many, steps):
    need_steps(many, steps)
    return [flipped_step(many, word, place, share) for word, place, share in steps]


def row_less(row, above, share):
    return tuple([less_of(number, times_of(share, other)) for number, other in zip(row, above)])


def down_steps(table):
    # Each column is cleared below the slant, from its last row up, each row by the one above it, which is not
    # cleared yet: in this order what is left stays good.
    rows = list(as_fractions(table))
    steps = []
    for column in range(len(table) - 1):
        for row in range(len(table) - 1, column, -1):
            # In a good table that comes to something there is no 0 above a number that is not 0.
            if rows[row][column][0] != 0:
                share = parted(rows[row][column], rows[row - 1][column])
                steps.append((DOWN, row - 1, share))
                rows[row] = row_less(rows[row], rows[row - 1], share)
    return steps


def corner_worth(table, size):
    return worth_of(tuple([row[:size] for row in table[:size]]))


def scale_steps(table):
    steps = []
    for place in range(len(table)):
        share = lowest(corner_worth(table, place + 1), corner_worth(table, place))
        if share != (1, 1):
            steps.append((SCALE, place, share))
    return steps


def can_be_taken_apart(table):
    need_table(table)
    need_square(table)
    return is_good(table) and worth_of(table) != 0


def taken_apart(table):
    if not can_be_taken_apart(table):
        raise NoSteps("made by no steps")
    # There is one way alone to part a table in a lower, a slant and an upper one, so both sides are found alike.
    return down_steps(table) + scale_steps(table) + turned_steps(down_steps(turned(table)))
