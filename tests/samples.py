"""Tables for the tests, things that are none, and reckonings of their own to check against."""

from fractions import Fraction
from itertools import combinations, permutations
from math import prod

FAR = 10 ** 30

SQUARES = [
    ((7,),),
    ((0,),),
    ((-FAR,),),
    ((1, 2), (3, 4)),
    ((2, 4), (1, 2)),
    ((0, 1), (1, 0)),
    ((1, 2, 3), (4, 5, 6), (7, 8, 10)),
    ((0, 0, 2), (3, 0, 0), (0, 5, 0)),
    ((0, -1, FAR), (2, 0, 3), (-FAR, 4, 1)),
    ((1, 1, 1, 1), (1, 2, 3, 4), (1, 3, 6, 10), (1, 4, 10, 20)),
    ((2, -3, 0, 5), (7, 1, -4, 6), (0, 8, 9, -2), (-1, 3, 5, 4)),
    ((0, 0, 0, 1), (0, 0, 1, 0), (0, 1, 0, 0), (1, 0, 0, 0)),
    ((FAR, 1, -2, 3), (4, -FAR, 5, 6), (7, 8, FAR, 9), (1, 0, 2, FAR + 1)),
]

OBLONGS = [
    ((1, 2),),
    ((1,), (2,)),
    ((5, -6, 7, 8),),
    ((5,), (6,), (-7,), (8,)),
    ((1, 2, 3), (4, 5, 7)),
    ((1, -2), (3, 4), (0, 6)),
    ((1, 2, 3, 4), (0, 2, 1, 5), (3, 3, -1, 2)),
    ((1, 2), (3, 5), (7, 11), (13, -FAR)),
]

TABLES = SQUARES + OBLONGS

# No minor of these is below 0, and the square ones come to something.
GOOD_SQUARES = [
    ((1,),),
    ((7,),),
    ((FAR,),),
    ((1, 0), (0, 1)),
    ((3, 0), (0, 5)),
    ((1, 2), (3, 7)),
    ((1, 0), (4, 2)),
    ((2, 9), (0, 3)),
    ((FAR, 1), (1, FAR)),
    ((1, 0, 0), (0, 1, 0), (0, 0, 1)),
    ((1, 1, 1), (1, 2, 4), (1, 3, 9)),
    ((1, 1, 0), (1, 2, 1), (0, 1, 2)),
    ((2, 1, 0), (0, 3, 5), (0, 0, 1)),
    ((1, 0, 0), (2, 1, 0), (1, 1, 4)),
    ((2, 1, 0), (4, 3, 1), (0, 2, 7)),
    ((1, 1, 1, 1), (1, 2, 3, 4), (1, 3, 6, 10), (1, 4, 10, 20)),
    ((1, 1, 1, 1), (1, 2, 4, 8), (1, 3, 9, 27), (1, 4, 16, 64)),
    ((2, 1, 0, 0), (1, 2, 1, 0), (0, 1, 2, 1), (0, 0, 1, 2)),
    ((1, 3, 3, 1), (0, 1, 3, 3), (0, 0, 1, 3), (0, 0, 0, 1)),
    ((1, 0, 0, 0), (1, 1, 0, 0), (0, 0, 1, 0), (0, 0, 5, 2)),
    ((FAR, FAR, 0, 0), (1, 3, 5, 0), (0, 1, FAR, 2), (0, 0, 1, 1)),
]

# No minor of these is below 0, but they come to 0, or are not square.
GOOD_OTHERS = [
    ((0,),),
    ((0, 0), (0, 0)),
    ((1, 1), (1, 1)),
    ((0, 2), (0, 3)),
    ((1, 2, 3), (2, 4, 6), (5, 10, 15)),
    ((0, 1, 0), (0, 0, 1), (0, 0, 0)),
    ((1, 1, 1, 1),) * 4,
    ((0, 0, 0, 1), (0, 0, 0, 0), (0, 0, 0, 0), (0, 0, 0, 0)),
    ((1, 2),),
    ((0,), (2,)),
    ((5, 0, 7, 8),),
    ((5,), (6,), (0,), (FAR,)),
    ((1, 2, 3), (4, 9, 14)),
    ((1, 2, 3), (4, 9, FAR)),
    ((1, 0), (3, 4), (2, 6)),
    ((1, 1, 1, 1), (1, 2, 4, 8), (1, 3, 9, 27)),
    ((1, 1), (1, 2), (1, 3), (1, FAR)),
]

GOODS = GOOD_SQUARES + GOOD_OTHERS

# Each of these has a minor below 0, at some size or other; some of the square ones come to more than 0 all the same.
BADS = [
    ((-1,),),
    ((-FAR,),),
    ((-1, 0), (0, -1)),
    ((1, 2), (3, 4)),
    ((0, 1), (1, 0)),
    ((1, 1, 0), (1, 1, 1), (0, 1, 1)),
    ((0, 1, 0), (0, 0, 1), (1, 0, 0)),
    ((1, 0, 1), (0, 1, 0), (0, 0, 1)),
    ((3, 2, 0), (2, 2, 2), (1, 2, 3)),
    ((0, 0, 0, 1), (0, 0, 1, 0), (0, 1, 0, 0), (1, 0, 0, 0)),
    ((1, 1, 1, 1), (1, 2, 3, 4), (1, 3, 6, 10), (1, 4, 10, 18)),
    ((3, 2, 0, 0), (2, 3, 2, 0), (0, 2, 3, 2), (0, 0, 2, 3)),
    ((FAR, 1, 0, 0), (0, FAR, 1, 0), (0, 0, FAR, 1), (1, 0, 0, FAR)),
    ((2, 1, -1),),
    ((0,), (0,), (-1,)),
    ((1, 2, 3), (4, 9, 13)),
    ((1, 4), (2, 9), (3, 13)),
    ((1, 1, 1, 1), (1, 2, 3, 4), (1, 3, 6, 8)),
]

# Each is (up, down), in lowest terms and with down above 0.
FRACTIONS = [(0, 1), (1, 1), (2, 1), (1, 2), (3, 4), (6, 35), (FAR, 1), (1, FAR), (FAR, FAR + 1)]
BELOW = [(-up, down) for up, down in FRACTIONS if up > 0]

# None of these is a fraction, below 0 or not.
NO_FRACTIONS = [
    (2, 2), (2, 4), (3, 6), (10, 4), (-2, 4), (FAR, FAR), (2 * FAR, 2),
    (0, 2), (0, 3), (0, -1), (0, 0), (1, 0), (5, 0), (-1, 0),
    (1, -1), (1, -2), (-1, -1), (-1, -2), (2, -4),
    (True, 1), (1, True), (False, 1), (True, True), (0, True), (1, False),
    (), (1,), (1, 2, 3), (1, 2, 1), ((1, 2),), ((1, 2), (3, 4)), ((1,), (2,)), ((1, 2), 1), (1, (2,)),
    [], [1, 2], [1, 1], [0, 1], ([1], 2), (1, [2]), [(1, 2)],
    (None, 1), (1, None), (None, None), ("1", "2"), ("1", 2), (1, "2"), (1, ""),
    None, True, False, 0, 1, -3, FAR, "", "1", "12", "1/2", "(1, 2)", (((((1,),),),),), [[[[[]]]]],
]

# None of these has the form of a table, whatever the size of its numbers.
NO_TABLES = [
    (),
    ((),),
    ((), ()),
    ((), (1,)),
    ((1,), ()),
    ((1,),) * 5,
    ((1, 2, 3, 4, 5),),
    ((1, 2, 3, 4, 5),) * 5,
    ((1, 2), (3,)),
    ((1,), (2, 3)),
    ((1, 2), (3, 4), (5, 6, 7)),
    ((True,),),
    ((1, 2), (3, False)),
    ((1, 2), (True, 4)),
    [[1, 2], [3, 4]],
    [(1, 2), (3, 4)],
    ([1, 2], [3, 4]),
    ((1, 2), [3, 4]),
    [],
    ([],),
    "",
    "12",
    ("12", "34"),
    (("1", "2"), ("3", "4")),
    ((1, None),),
    (None,),
    (1, 2),
    ((1, 2), 3),
    (1, (2,)),
    (((1,),),),
    ((((1,),),),),
    ((1, (2,)),),
    ((1, [2]),),
    None,
    True,
    False,
    0,
    1,
    -5,
]

# None of these names rows or columns of a table of any size.
NO_PLACES = [
    (),
    (1, 0),
    (0, 0),
    (0, 1, 1),
    (0, 2, 1),
    (-1,),
    (-1, 0),
    (0, 4),
    (4,),
    (0, 1, 2, 3, 4),
    (FAR,),
    (False,),
    (True,),
    (0, True),
    (False, 1),
    ("0",),
    (None,),
    (0, None),
    ((0,),),
    (0, (1,)),
    ([0],),
    [],
    [0],
    [0, 1],
    "",
    "0",
    "01",
    None,
    True,
    False,
    0,
    1,
]

# None of these is the number of a row, a column or a level, of however many.
NO_SINGLE_PLACE = [
    -1, -4, 4, 5, FAR, -FAR, True, False, None, "", "0", "1", (), (0,), (0, 1), [], [0], ((0,),), [[[[[0]]]]],
]


def exchanges(order):
    return sum(1 for one, other in combinations(order, 2) if one > other)


def reckoned(table):
    """What a square table comes to, by all of its products."""
    orders = permutations(range(len(table)))
    return sum((-1) ** exchanges(order) * prod(table[row][order[row]] for row in range(len(table)))
               for order in orders)


def cut(table, rows, columns):
    return tuple(tuple(table[row][column] for column in columns) for row in rows)


def plain_minors(table):
    """All minors by size, then by rows, then by columns, reckoned by all products."""
    return [(rows, columns, reckoned(cut(table, rows, columns)))
            for size in range(1, min(len(table), len(table[0])) + 1)
            for rows in combinations(range(len(table)), size)
            for columns in combinations(range(len(table[0])), size)]


def none_below(table):
    return all(worth >= 0 for rows, columns, worth in plain_minors(table))


def with_number(table, row, column, number):
    lines = [list(line) for line in table]
    lines[row][column] = number
    return tuple(tuple(line) for line in lines)


def with_less(table, fraction):
    """The table, as one of Python's own fractions, with its first number less."""
    first = Fraction(table[0][0]) - Fraction(*fraction)
    return with_number(table, 0, 0, first)


def left_without(table, row, column):
    rows = [place for place in range(len(table)) if place != row]
    columns = [place for place in range(len(table)) if place != column]
    return reckoned(cut(table, rows, columns))


def product(one, other):
    """The product of tables with any number of rows and columns."""
    return tuple(tuple(sum(row[at] * other[at][column] for at in range(len(other)))
                       for column in range(len(other[0]))) for row in one)
