import unittest

from minortables.errors import NoFit, NoPlace
from minortables.tables import flipped, is_table, part, plain, plus, times, turned
from tests.samples import FAR, NO_PLACES, NO_TABLES, TABLES, cut, product


class IsTable(unittest.TestCase):
    def test_all_sizes_from_1_to_4(self):
        for rows in range(1, 5):
            for columns in range(1, 5):
                with self.subTest(rows=rows, columns=columns):
                    self.assertIs(is_table(((5,) * columns,) * rows), True)

    def test_sizes_beyond(self):
        for rows, columns in [(0, 0), (1, 0), (4, 0), (5, 1), (1, 5), (5, 4), (4, 5), (5, 5), (6, 6)]:
            with self.subTest(rows=rows, columns=columns):
                self.assertIs(is_table(((5,) * columns,) * rows), False)

    def test_numbers_up_to_99_either_way(self):
        self.assertIs(is_table(((-99, 99), (0, -1))), True)
        self.assertIs(is_table(((99,),)), True)
        self.assertIs(is_table(((-99,),)), True)

    def test_numbers_beyond_at_each_place(self):
        for number in [100, -100, FAR, -FAR]:
            for row in range(3):
                for column in range(2):
                    lines = [[1, 2], [3, 4], [5, 6]]
                    lines[row][column] = number
                    thing = tuple(tuple(line) for line in lines)
                    with self.subTest(thing=thing):
                        self.assertIs(is_table(thing), False)

    def test_truths_at_each_place(self):
        for truth in [True, False]:
            for row in range(2):
                for column in range(2):
                    lines = [[1, 0], [0, 1]]
                    lines[row][column] = truth
                    thing = tuple(tuple(line) for line in lines)
                    with self.subTest(thing=thing):
                        self.assertIs(is_table(thing), False)

    def test_any_other_thing(self):
        for thing in NO_TABLES:
            with self.subTest(thing=thing):
                self.assertIs(is_table(thing), False)


class TurnedAndFlipped(unittest.TestCase):
    def test_turned(self):
        self.assertEqual(turned(((1, 2, 3), (4, 5, 6))), ((1, 4), (2, 5), (3, 6)))
        self.assertEqual(turned(((1, 2), (3, 4))), ((1, 3), (2, 4)))
        self.assertEqual(turned(((1, 2, 3, 4),)), ((1,), (2,), (3,), (4,)))
        self.assertEqual(turned(((1,), (2,), (3,), (4,))), ((1, 2, 3, 4),))
        self.assertEqual(turned(((-8,),)), ((-8,),))

    def test_flipped(self):
        self.assertEqual(flipped(((1, 2, 3), (4, 5, 6))), ((6, 5, 4), (3, 2, 1)))
        self.assertEqual(flipped(((1, 2), (3, 4))), ((4, 3), (2, 1)))
        self.assertEqual(flipped(((1, 2, 3, 4),)), ((4, 3, 2, 1),))
        self.assertEqual(flipped(((1,), (2,), (3,), (4,))), ((4,), (3,), (2,), (1,)))
        self.assertEqual(flipped(((-8,),)), ((-8,),))

    def test_numbers_far_beyond_99(self):
        self.assertEqual(turned(((FAR, 2), (-FAR, 100))), ((FAR, -FAR), (2, 100)))
        self.assertEqual(flipped(((FAR, 2), (-FAR, 100))), ((100, -FAR), (2, FAR)))

    def test_twice_is_the_same(self):
        for table in TABLES:
            with self.subTest(table=table):
                self.assertEqual(turned(turned(table)), table)
                self.assertEqual(flipped(flipped(table)), table)


class Part(unittest.TestCase):
    TABLE = ((1, 2, 3, 4), (5, 6, 7, 8), (9, 10, 11, 12))

    def test_ordinary(self):
        self.assertEqual(part(self.TABLE, (0, 2), (1, 3)), ((2, 4), (10, 12)))
        self.assertEqual(part(self.TABLE, (1,), (0, 1, 3)), ((5, 6, 8),))
        self.assertEqual(part(self.TABLE, (0, 1, 2), (2,)), ((3,), (7,), (11,)))

    def test_edges(self):
        self.assertEqual(part(self.TABLE, (0,), (0,)), ((1,),))
        self.assertEqual(part(self.TABLE, (2,), (3,)), ((12,),))
        self.assertEqual(part(((7,),), (0,), (0,)), ((7,),))

    def test_the_whole(self):
        for table in TABLES:
            with self.subTest(table=table):
                self.assertEqual(part(table, tuple(range(len(table))), tuple(range(len(table[0])))), table)

    def test_no_place(self):
        for thing in NO_PLACES:
            with self.subTest(thing=thing):
                with self.assertRaises(NoPlace):
                    part(self.TABLE, thing, (0,))
                with self.assertRaises(NoPlace):
                    part(self.TABLE, (0,), thing)
                with self.assertRaises(NoPlace):
                    part(self.TABLE, thing, thing)

    def test_rows_and_columns_have_bounds_of_their_own(self):
        self.assertEqual(part(self.TABLE, (0,), (3,)), ((4,),))
        with self.assertRaises(NoPlace):
            part(self.TABLE, (3,), (0,))
        self.assertEqual(part(turned(self.TABLE), (3,), (0,)), ((4,),))
        with self.assertRaises(NoPlace):
            part(turned(self.TABLE), (0,), (3,))


class TimesAndPlus(unittest.TestCase):
    def test_times(self):
        self.assertEqual(times(((1, 2), (3, 4)), ((5, 6), (7, 8))), ((19, 22), (43, 50)))
        self.assertEqual(times(((1, 2, 3),), ((4,), (5,), (-6,))), ((-4,),))
        self.assertEqual(times(((4,), (5,)), ((1, 2, 3),)), ((4, 8, 12), (5, 10, 15)))
        self.assertEqual(times(((-3,),), ((7,),)), ((-21,),))
        self.assertEqual(times(((FAR, 1),), ((FAR,), (1,))), ((FAR * FAR + 1,),))

    def test_times_goes_by_rows_and_columns(self):
        for one in TABLES:
            for other in TABLES:
                with self.subTest(one=one, other=other):
                    if len(one[0]) == len(other):
                        self.assertEqual(times(one, other), product(one, other))
                    else:
                        with self.assertRaises(NoFit):
                            times(one, other)

    def test_times_no_fit_by_the_inner_sizes_alone(self):
        with self.assertRaises(NoFit):
            times(((1, 2, 3), (4, 5, 6)), ((1, 2, 3), (4, 5, 6)))
        with self.assertRaises(NoFit):
            times(((1,), (2,)), ((1,), (2,)))

    def test_plus(self):
        self.assertEqual(plus(((1, 2, 3), (4, 5, 6)), ((10, 20, 30), (-4, 0, 7))), ((11, 22, 33), (0, 5, 13)))
        self.assertEqual(plus(((99,),), ((99,),)), ((198,),))
        self.assertEqual(plus(((FAR,), (1,)), ((1,), (-FAR,))), ((FAR + 1,), (1 - FAR,)))

    def test_plus_of_unlike_sizes(self):
        for one in TABLES:
            for other in TABLES:
                if (len(one), len(one[0])) != (len(other), len(other[0])):
                    with self.subTest(one=one, other=other), self.assertRaises(NoFit):
                        plus(one, other)


class Plain(unittest.TestCase):
    def test_from_1_to_4(self):
        self.assertEqual(plain(1), ((1,),))
        self.assertEqual(plain(2), ((1, 0), (0, 1)))
        self.assertEqual(plain(3), ((1, 0, 0), (0, 1, 0), (0, 0, 1)))
        self.assertEqual(plain(4), ((1, 0, 0, 0), (0, 1, 0, 0), (0, 0, 1, 0), (0, 0, 0, 1)))

    def test_no_fit(self):
        for many in [0, 5, 6, -1, -4, FAR, -FAR, True, False]:
            with self.subTest(many=many), self.assertRaises(NoFit):
                plain(many)

    def test_times_plain_is_the_same(self):
        for table in TABLES:
            with self.subTest(table=table):
                self.assertEqual(times(plain(len(table)), table), table)
                self.assertEqual(times(table, plain(len(table[0]))), table)


class Kinds(unittest.TestCase):
    def check_form(self, table):
        self.assertIsInstance(table, tuple)
        for row in table:
            self.assertIsInstance(row, tuple)
            for number in row:
                self.assertIs(type(number), int)

    def test_told_tables_are_tuples_of_tuples_of_whole_numbers(self):
        for table in TABLES:
            with self.subTest(table=table):
                self.check_form(turned(table))
                self.check_form(flipped(table))
                self.check_form(part(table, (0,), (0,)))
                self.check_form(times(table, turned(table)))
                self.check_form(plus(table, table))
                self.assertEqual(part(table, (0,), (0,)), cut(table, (0,), (0,)))
        for many in range(1, 5):
            self.check_form(plain(many))
