"""Tables for the tests, things that are none, and reckonings of their own to check against."""

from itertools import combinations, permutations
from math import prod

FAR = 10 ** 30

SQUARES = [
    ((7,),),
    ((0,),),
    ((-FAR,),),
    ((1, 2), (3, 4)),
    ((2, 4), (1, 2)),
    ((0, 1), (1, 0)),
    ((1, 2, 3), (4, 5, 6), (7, 8, 10)),
    ((0, 0, 2), (3, 0, 0), (0, 5, 0)),
    ((0, -1, FAR), (2, 0, 3), (-FAR, 4, 1)),
    ((1, 1, 1, 1), (1, 2, 3, 4), (1, 3, 6, 10), (1, 4, 10, 20)),
    ((2, -3, 0, 5), (7, 1, -4, 6), (0, 8, 9, -2), (-1, 3, 5, 4)),
    ((0, 0, 0, 1), (0, 0, 1, 0), (0, 1, 0, 0), (1, 0, 0, 0)),
    ((FAR, 1, -2, 3), (4, -FAR, 5, 6), (7, 8, FAR, 9), (1, 0, 2, FAR + 1)),
]

OBLONGS = [
    ((1, 2),),
    ((1,), (2,)),
    ((5, -6, 7, 8),),
    ((5,), (6,), (-7,), (8,)),
    ((1, 2, 3), (4, 5, 7)),
    ((1, -2), (3, 4), (0, 6)),
    ((1, 2, 3, 4), (0, 2, 1, 5), (3, 3, -1, 2)),
    ((1, 2), (3, 5), (7, 11), (13, -FAR)),
]

TABLES = SQUARES + OBLONGS

# None of these has the form of a table, whatever the size of its numbers.
NO_TABLES = [
    (),
    ((),),
    ((), ()),
    ((), (1,)),
    ((1,), ()),
    ((1,),) * 5,
    ((1, 2, 3, 4, 5),),
    ((1, 2, 3, 4, 5),) * 5,
    ((1, 2), (3,)),
    ((1,), (2, 3)),
    ((1, 2), (3, 4), (5, 6, 7)),
    ((True,),),
    ((1, 2), (3, False)),
    ((1, 2), (True, 4)),
    [[1, 2], [3, 4]],
    [(1, 2), (3, 4)],
    ([1, 2], [3, 4]),
    ((1, 2), [3, 4]),
    [],
    ([],),
    "",
    "12",
    ("12", "34"),
    (("1", "2"), ("3", "4")),
    ((1, None),),
    (None,),
    (1, 2),
    ((1, 2), 3),
    (1, (2,)),
    (((1,),),),
    ((((1,),),),),
    ((1, (2,)),),
    ((1, [2]),),
    None,
    True,
    False,
    0,
    1,
    -5,
]

# None of these names rows or columns of a table of any size.
NO_PLACES = [
    (),
    (1, 0),
    (0, 0),
    (0, 1, 1),
    (0, 2, 1),
    (-1,),
    (-1, 0),
    (0, 4),
    (4,),
    (0, 1, 2, 3, 4),
    (FAR,),
    (False,),
    (True,),
    (0, True),
    (False, 1),
    ("0",),
    (None,),
    (0, None),
    ((0,),),
    (0, (1,)),
    ([0],),
    [],
    [0],
    [0, 1],
    "",
    "0",
    "01",
    None,
    True,
    False,
    0,
    1,
]


def exchanges(order):
    return sum(1 for one, other in combinations(order, 2) if one > other)


def reckoned(table):
    """What a square table comes to, by all of its products."""
    orders = permutations(range(len(table)))
    return sum((-1) ** exchanges(order) * prod(table[row][order[row]] for row in range(len(table)))
               for order in orders)


def cut(table, rows, columns):
    return tuple(tuple(table[row][column] for column in columns) for row in rows)


def left_without(table, row, column):
    rows = [place for place in range(len(table)) if place != row]
    columns = [place for place in range(len(table)) if place != column]
    return reckoned(cut(table, rows, columns))


def product(one, other):
    """The product of tables with any number of rows and columns."""
    return tuple(tuple(sum(row[at] * other[at][column] for at in range(len(other)))
                       for column in range(len(other[0]))) for row in one)
