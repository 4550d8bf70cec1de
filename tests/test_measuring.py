import unittest
from itertools import product as choices

from minortables.errors import NoFit
from minortables.measuring import go_together, is_even, power, signs_in, slant_sum, sums, unlike_places
from minortables.tables import plain, times, turned
from tests.samples import BADS, FAR, GOODS, OBLONGS, SQUARES, TABLES, product, with_number

ALL = TABLES + GOODS + BADS
SQUARE_ONES = [table for table in ALL if len(table) == len(table[0])]


class Sums(unittest.TestCase):
    def test_told_ones(self):
        self.assertEqual(sums(((1, 2, 3), (4, 5, 7))), ((6, 16), (5, 7, 10)))
        self.assertEqual(sums(((-4,),)), ((-4,), (-4,)))
        self.assertEqual(sums(((1, -1),)), ((0,), (1, -1)))
        self.assertEqual(sums(((FAR,), (1,))), ((FAR, 1), (FAR + 1,)))

    def test_each_row_and_column(self):
        for table in ALL:
            rows = tuple(sum(row) for row in table)
            columns = tuple(sum(column) for column in zip(*table))
            with self.subTest(table=table):
                self.assertEqual(sums(table), (rows, columns))


class SlantSum(unittest.TestCase):
    def test_told_ones(self):
        self.assertEqual(slant_sum(((1, 2), (3, 4))), 5)
        self.assertEqual(slant_sum(((-7,),)), -7)
        self.assertEqual(slant_sum(((1, 2, 3), (4, 5, 6), (7, 8, 10))), 16)

    def test_of_all_square_ones(self):
        for table in SQUARE_ONES:
            self.assertEqual(slant_sum(table), sum(table[place][place] for place in range(len(table))))
        for one, other in choices(SQUARE_ONES, repeat=2):
            if len(one) == len(other):
                self.assertEqual(slant_sum(times(one, other)), slant_sum(times(other, one)))

    def test_not_square(self):
        for table in OBLONGS:
            with self.subTest(table=table), self.assertRaises(NoFit):
                slant_sum(table)


class SignsIn(unittest.TestCase):
    def test_told_ones(self):
        self.assertEqual(signs_in(((1, -2, 0), (4, 0, 0))), (1, 3, 2))
        self.assertEqual(signs_in(((0,),)), (0, 1, 0))
        self.assertEqual(signs_in(((-1,), (-FAR,))), (2, 0, 0))
        self.assertEqual(signs_in(((1, 2, FAR),)), (0, 0, 3))

    def test_each_is_counted(self):
        for table in ALL:
            numbers = [number for row in table for number in row]
            asked = (sum(number < 0 for number in numbers), numbers.count(0), sum(number > 0 for number in numbers))
            with self.subTest(table=table):
                self.assertEqual(signs_in(table), asked)


class IsEven(unittest.TestCase):
    def test_told_ones(self):
        for table in [((5,),), ((1, 2), (2, 3)), ((0, 1), (1, 0)), ((1, 2, 3), (2, 4, 5), (3, 5, 6)), plain(4)]:
            with self.subTest(table=table):
                self.assertIs(is_even(table), True)
        for table in [((1, 2), (3, 4)), ((0, 1), (-1, 0)), ((1, 2, 3), (2, 4, 5), (3, 6, 6)), ((1, 1),), ((1,), (1,)),
                      ((1, 2), (2, 1), (1, 2)), ((0,) * 4,) * 3]:
            with self.subTest(table=table):
                self.assertIs(is_even(table), False)

    def test_by_turned(self):
        for table in ALL:
            self.assertIs(is_even(table), turned(table) == table)
            if len(table) == len(table[0]):
                self.assertIs(is_even(times(table, turned(table))), True)

    def test_each_place_counts(self):
        even = ((1, 2, 3, 4), (2, 5, 6, 7), (3, 6, 8, 9), (4, 7, 9, 0))
        self.assertIs(is_even(even), True)
        for row, column in choices(range(4), repeat=2):
            self.assertIs(is_even(with_number(even, row, column, FAR)), row == column)


class UnlikePlaces(unittest.TestCase):
    def test_told_ones(self):
        self.assertEqual(unlike_places(((1, 2), (3, 4)), ((1, 0), (0, 4))), [(0, 1), (1, 0)])
        self.assertEqual(unlike_places(((1, 2), (3, 4)), ((1, 2), (3, 4))), [])
        self.assertEqual(unlike_places(((1,),), ((FAR,),)), [(0, 0)])
        self.assertEqual(unlike_places(((1, 2, 3),), ((3, 2, 1),)), [(0, 0), (0, 2)])

    def test_rising_and_all_of_them(self):
        for one, other in choices(ALL, repeat=2):
            if len(one) == len(other) and len(one[0]) == len(other[0]):
                asked = [(row, column) for row in range(len(one)) for column in range(len(one[0]))
                         if one[row][column] != other[row][column]]
                told = unlike_places(one, other)
                self.assertIsInstance(told, list)
                self.assertEqual(told, asked)
                self.assertEqual(told, sorted(set(told)))

    def test_each_place(self):
        for table in ALL:
            self.assertEqual(unlike_places(table, table), [])
            for row, column in choices(range(len(table)), range(len(table[0]))):
                other = with_number(table, row, column, table[row][column] + 1)
                self.assertEqual(unlike_places(table, other), [(row, column)])
                self.assertEqual(unlike_places(other, table), [(row, column)])

    def test_unlike_sizes(self):
        for one, other in choices(ALL, repeat=2):
            if len(one) != len(other) or len(one[0]) != len(other[0]):
                with self.assertRaises(NoFit):
                    unlike_places(one, other)


class Power(unittest.TestCase):
    def test_told_ones(self):
        self.assertEqual(power(((1, 1), (0, 1)), 5), ((1, 5), (0, 1)))
        self.assertEqual(power(((1, 2), (3, 4)), 2), ((7, 10), (15, 22)))
        self.assertEqual(power(((-2,),), 3), ((-8,),))
        self.assertEqual(power(((0,),), 0), ((1,),))
        self.assertEqual(power(((0, 1), (0, 0)), 2), ((0, 0), (0, 0)))

    def test_so_often(self):
        for table in SQUARE_ONES:
            asked = plain(len(table))
            for many in range(6):
                with self.subTest(table=table, many=many):
                    self.assertEqual(power(table, many), asked)
                asked = product(asked, table)
            self.assertEqual(power(table, 0), plain(len(table)))
            self.assertEqual(power(table, 1), table)

    def test_not_square(self):
        for table in OBLONGS:
            for many in [-1, 0, 1, 2]:
                with self.subTest(table=table, many=many), self.assertRaises(NoFit):
                    power(table, many)

    def test_below_0(self):
        for table in SQUARE_ONES:
            for many in [-1, -2, -FAR]:
                with self.subTest(table=table, many=many), self.assertRaises(NoFit):
                    power(table, many)


class GoTogether(unittest.TestCase):
    def test_told_ones(self):
        self.assertIs(go_together(((1, 1), (0, 1)), ((1, 5), (0, 1))), True)
        self.assertIs(go_together(((1, 1), (0, 1)), ((1, 0), (1, 1))), False)
        self.assertIs(go_together(((3,),), ((-FAR,),)), True)

    def test_either_way(self):
        for one, other in choices(SQUARE_ONES, repeat=2):
            if len(one) == len(other):
                self.assertIs(go_together(one, other), product(one, other) == product(other, one))

    def test_with_itself_and_its_powers(self):
        for table in SQUARES:
            for many in range(4):
                self.assertIs(go_together(table, power(table, many)), True)

    def test_not_square_and_unlike_sizes(self):
        for one, other in choices(ALL, repeat=2):
            if len({len(one), len(one[0]), len(other), len(other[0])}) > 1:
                with self.assertRaises(NoFit):
                    go_together(one, other)
