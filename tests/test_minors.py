import unittest
from itertools import combinations

from minortables.errors import NoFit, NoPlace
from minortables.minors import all_minors, by_row, minor, pairs, rank, turned_back, unsigned_back, whole_minor
from minortables.tables import plain, times, turned
from tests.samples import (FAR, NO_PLACES, OBLONGS, SQUARES, TABLES, cut, left_without, product, reckoned)

OBLONG = ((1, 2, 3), (4, 5, 6))
NO_ROWS = [-1, -FAR, 4, 5, FAR, True, False, None, "", "0", (), (0,), [], [0]]


def sizes(table):
    return range(1, min(len(table), len(table[0])) + 1)


def choices(many, size):
    return list(combinations(range(many), size))


class AllMinors(unittest.TestCase):
    def test_of_one_number(self):
        self.assertEqual(all_minors(((-7,),)), [((0,), (0,), -7)])

    def test_of_two_rows_and_columns(self):
        self.assertEqual(all_minors(((1, 2), (3, 4))), [
            ((0,), (0,), 1), ((0,), (1,), 2), ((1,), (0,), 3), ((1,), (1,), 4),
            ((0, 1), (0, 1), -2),
        ])

    def test_of_more_columns_than_rows(self):
        self.assertEqual(all_minors(((1, 2, 3), (4, 5, 7))), [
            ((0,), (0,), 1), ((0,), (1,), 2), ((0,), (2,), 3),
            ((1,), (0,), 4), ((1,), (1,), 5), ((1,), (2,), 7),
            ((0, 1), (0, 1), -3), ((0, 1), (0, 2), -5), ((0, 1), (1, 2), -1),
        ])

    def test_of_more_rows_than_columns(self):
        self.assertEqual(all_minors(((1, 4), (2, 5), (3, 7))), [
            ((0,), (0,), 1), ((0,), (1,), 4), ((1,), (0,), 2), ((1,), (1,), 5), ((2,), (0,), 3), ((2,), (1,), 7),
            ((0, 1), (0, 1), -3), ((0, 2), (0, 1), -5), ((1, 2), (0, 1), -1),
        ])

    def test_all_in_order_with_their_worths(self):
        for table in TABLES:
            asked = [(rows, columns, reckoned(cut(table, rows, columns)))
                     for size in sizes(table)
                     for rows in choices(len(table), size)
                     for columns in choices(len(table[0]), size)]
            with self.subTest(table=table):
                self.assertEqual(all_minors(table), asked)

    def test_how_many_there_are(self):
        self.assertEqual(len(all_minors(plain(4))), 16 + 36 + 16 + 1)


class WholeMinor(unittest.TestCase):
    def test_told_ones(self):
        self.assertEqual(whole_minor(((-7,),)), -7)
        self.assertEqual(whole_minor(((1, 2), (3, 4))), -2)
        self.assertEqual(whole_minor(((1, 2, 3), (4, 5, 6), (7, 8, 10))), -3)
        self.assertEqual(whole_minor(((0, 0, 2), (3, 0, 0), (0, 5, 0))), 30)
        self.assertEqual(whole_minor(((1, 1, 1, 1), (1, 2, 3, 4), (1, 3, 6, 10), (1, 4, 10, 20))), 1)
        self.assertEqual(whole_minor(((0, 1, 0, 0), (0, 0, 1, 0), (0, 0, 0, 1), (1, 0, 0, 0))), -1)

    def test_all_products(self):
        for table in SQUARES:
            with self.subTest(table=table):
                self.assertEqual(whole_minor(table), reckoned(table))

    def test_not_square(self):
        for table in OBLONGS:
            with self.subTest(table=table), self.assertRaises(NoFit):
                whole_minor(table)


class Minor(unittest.TestCase):
    def test_told_ones(self):
        table = ((1, 2, 3, 4), (5, 6, 7, 9), (2, 4, 8, 16))
        self.assertEqual(minor(table, (1,), (3,)), 9)
        self.assertEqual(minor(table, (0, 2), (1, 3)), 2 * 16 - 4 * 4)
        self.assertEqual(minor(table, (0, 1, 2), (0, 1, 2)), -8)

    def test_each_part(self):
        for table in TABLES:
            for size in sizes(table):
                for rows in choices(len(table), size):
                    for columns in choices(len(table[0]), size):
                        with self.subTest(table=table, rows=rows, columns=columns):
                            self.assertEqual(minor(table, rows, columns), reckoned(cut(table, rows, columns)))

    def test_no_place(self):
        for thing in NO_PLACES:
            with self.subTest(thing=thing):
                with self.assertRaises(NoPlace):
                    minor(plain(4), thing, (0,))
                with self.assertRaises(NoPlace):
                    minor(plain(4), (0,), thing)
                with self.assertRaises(NoPlace):
                    minor(plain(4), thing, thing)

    def test_rows_and_columns_have_bounds_of_their_own(self):
        self.assertEqual(minor(OBLONG, (1,), (2,)), 6)
        with self.assertRaises(NoPlace):
            minor(OBLONG, (2,), (1,))
        self.assertEqual(minor(turned(OBLONG), (2,), (1,)), 6)
        with self.assertRaises(NoPlace):
            minor(turned(OBLONG), (1,), (2,))

    def test_not_as_many(self):
        for rows, columns in [((0,), (0, 1)), ((0, 1), (0,)), ((0, 1), (0, 1, 2)), ((1,), (0, 1, 2))]:
            with self.subTest(rows=rows, columns=columns), self.assertRaises(NoFit):
                minor(OBLONG, rows, columns)


class Rank(unittest.TestCase):
    def test_of_nought_alone(self):
        for rows in range(1, 5):
            for columns in range(1, 5):
                self.assertEqual(rank(((0,) * columns,) * rows), 0)

    def test_told_ones(self):
        self.assertEqual(rank(((-1,),)), 1)
        self.assertEqual(rank(((2, 4), (1, 2))), 1)
        self.assertEqual(rank(((0, 0), (0, 3))), 1)
        self.assertEqual(rank(((1, 2, 3), (4, 5, 6), (7, 8, 9))), 2)
        self.assertEqual(rank(((1, 2, 3), (4, 5, 6), (7, 8, 10))), 3)
        self.assertEqual(rank(((1, 2, 3, 4), (2, 4, 6, 8))), 1)
        self.assertEqual(rank(((0, 0, 0, 1), (0, 0, 0, 0), (1, 0, 0, 0))), 2)
        self.assertEqual(rank(((1, 2, 3, 4), (5, 6, 7, 8), (9, 10, 11, 12), (13, 14, 15, 16))), 2)
        self.assertEqual(rank(((FAR, FAR), (FAR, FAR + 1))), 2)

    def test_of_plain(self):
        for many in range(1, 5):
            self.assertEqual(rank(plain(many)), many)

    def test_is_the_same_turned(self):
        for table in TABLES:
            with self.subTest(table=table):
                self.assertEqual(rank(turned(table)), rank(table))


class Pairs(unittest.TestCase):
    def test_of_size_1_is_the_table(self):
        for table in TABLES:
            with self.subTest(table=table):
                self.assertEqual(pairs(table, 1), table)

    def test_told_ones(self):
        self.assertEqual(pairs(((1, 2, 3), (4, 5, 7)), 2), ((-3, -5, -1),))
        self.assertEqual(pairs(((1, 4), (2, 5), (3, 7)), 2), ((-3,), (-5,), (-1,)))
        self.assertEqual(pairs(((1, 2), (3, 4)), 2), ((-2,),))
        self.assertEqual(pairs(((1, 2, 3), (4, 5, 6), (7, 8, 10)), 2), ((-3, -6, -3), (-6, -11, -4), (-3, -2, 2)))

    def test_more_than_4_rows_and_columns(self):
        table = pairs(plain(4), 2)
        self.assertEqual(table, tuple(tuple(int(row == column) for column in range(6)) for row in range(6)))
        self.assertEqual(len(pairs(((1, 2, 3, 4), (1, 4, 9, 16)), 2)[0]), 6)
        self.assertEqual(len(pairs(((1, 1), (2, 4), (3, 9), (4, 16)), 2)), 6)

    def test_rows_and_columns_in_order(self):
        for table in TABLES:
            for size in sizes(table):
                asked = tuple(tuple(reckoned(cut(table, rows, columns)) for columns in choices(len(table[0]), size))
                              for rows in choices(len(table), size))
                with self.subTest(table=table, size=size):
                    self.assertEqual(pairs(table, size), asked)

    def test_sizes_that_no_minor_has(self):
        for table in TABLES:
            most = min(len(table), len(table[0]))
            for size in [0, -1, -FAR, most + 1, 5, FAR, True, False]:
                with self.subTest(table=table, size=size), self.assertRaises(NoFit):
                    pairs(table, size)


class ByRow(unittest.TestCase):
    def test_told_ones(self):
        self.assertEqual(by_row(((1, 2), (3, 4)), 0), [(1, 4), (2, -3)])
        self.assertEqual(by_row(((1, 2), (3, 4)), 1), [(3, -2), (4, 1)])
        self.assertEqual(by_row(((1, 2, 3), (4, 5, 6), (7, 8, 10)), 1), [(4, 4), (5, -11), (6, 6)])

    def test_of_one_number(self):
        self.assertEqual(by_row(((-7,),), 0), [(-7, 1)])
        self.assertEqual(by_row(((0,),), 0), [(0, 1)])

    def test_each_row(self):
        for table in SQUARES:
            for row in range(len(table)):
                asked = [(number, (-1) ** (row + column) * left_without(table, row, column))
                         for column, number in enumerate(table[row])]
                with self.subTest(table=table, row=row):
                    self.assertEqual(by_row(table, row), asked)
                    self.assertEqual(sum(number * rest for number, rest in by_row(table, row)), reckoned(table))

    def test_no_place(self):
        for row in NO_ROWS:
            with self.subTest(row=row), self.assertRaises(NoPlace):
                by_row(plain(4), row)
        for many in range(1, 4):
            with self.assertRaises(NoPlace):
                by_row(plain(many), many)

    def test_not_square(self):
        for table in OBLONGS:
            for row in [0, len(table), -1, None]:
                with self.subTest(table=table, row=row), self.assertRaises(NoFit):
                    by_row(table, row)


class Back(unittest.TestCase):
    def test_told_ones(self):
        self.assertEqual(turned_back(((1, 2), (3, 4))), ((4, -2), (-3, 1)))
        self.assertEqual(unsigned_back(((1, 2), (3, 4))), ((4, 2), (3, 1)))
        table = ((1, 2, 3), (4, 5, 6), (7, 8, 10))
        self.assertEqual(turned_back(table), ((2, 4, -3), (2, -11, 6), (-3, 6, -3)))
        self.assertEqual(unsigned_back(table), ((2, -4, -3), (-2, -11, -6), (-3, -6, -3)))

    def test_of_one_number(self):
        for number in [0, 1, -7, FAR]:
            self.assertEqual(turned_back(((number,),)), ((1,),))
            self.assertEqual(unsigned_back(((number,),)), ((1,),))

    def test_each_place(self):
        for table in SQUARES:
            many = range(len(table))
            signed = tuple(tuple((-1) ** (row + column) * left_without(table, column, row) for column in many)
                           for row in many)
            unsigned = tuple(tuple(left_without(table, column, row) for column in many) for row in many)
            with self.subTest(table=table):
                self.assertEqual(turned_back(table), signed)
                self.assertEqual(unsigned_back(table), unsigned)

    def test_times_the_table(self):
        for table in SQUARES:
            asked = tuple(tuple(number * reckoned(table) for number in row) for row in plain(len(table)))
            with self.subTest(table=table):
                self.assertEqual(times(table, turned_back(table)), asked)
                self.assertEqual(times(turned_back(table), table), asked)

    def test_not_square(self):
        for table in OBLONGS:
            with self.subTest(table=table):
                with self.assertRaises(NoFit):
                    turned_back(table)
                with self.assertRaises(NoFit):
                    unsigned_back(table)


class Products(unittest.TestCase):
    def test_minors_of_a_product_are_sums_of_products_of_minors(self):
        for one in TABLES:
            for other in TABLES:
                if len(one[0]) != len(other):
                    continue
                whole = times(one, other)
                for size in sizes(whole):
                    with self.subTest(one=one, other=other, size=size):
                        if size <= len(other):
                            self.assertEqual(pairs(whole, size), product(pairs(one, size), pairs(other, size)))
                        else:
                            self.assertEqual({number for row in pairs(whole, size) for number in row}, {0})

    def test_a_minor_of_a_product(self):
        one = ((1, 2, 3), (4, 5, 6))
        other = ((1, 0), (2, 1), (0, 3))
        asked = sum(minor(one, (0, 1), some) * minor(other, some, (0, 1)) for some in choices(3, 2))
        self.assertEqual(minor(times(one, other), (0, 1), (0, 1)), asked)

    def test_what_a_square_table_comes_to_goes_past_products(self):
        for one in SQUARES:
            for other in SQUARES:
                if len(one) == len(other):
                    with self.subTest(one=one, other=other):
                        self.assertEqual(whole_minor(times(one, other)), whole_minor(one) * whole_minor(other))


class Kinds(unittest.TestCase):
    def test_all_minors_are_tuples_within_a_list(self):
        for found in all_minors(((1, 2), (3, 4))):
            self.assertIsInstance(found, tuple)
            rows, columns, worth = found
            self.assertIsInstance(rows, tuple)
            self.assertIsInstance(columns, tuple)
            self.assertIs(type(worth), int)

    def test_told_tables_are_tuples_of_tuples(self):
        for told in [pairs(plain(4), 2), turned_back(plain(3)), unsigned_back(plain(3)), turned_back(((5,),))]:
            self.assertIsInstance(told, tuple)
            for row in told:
                self.assertIsInstance(row, tuple)
                for number in row:
                    self.assertIs(type(number), int)
