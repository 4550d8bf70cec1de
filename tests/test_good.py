import unittest
from fractions import Fraction
from itertools import combinations, product as choices
from math import gcd

from minortables.errors import NoFit
from minortables.good import (corner_room, first_bad, first_minors, how_good, how_many_of_bits, is_good, is_very_good,
                              is_very_good_by_few, solid_minors)
from minortables.minors import all_minors, unsigned_back
from minortables.tables import flipped, part, times, turned
from tests.samples import (BADS, FAR, GOOD_OTHERS, GOOD_SQUARES, GOODS, OBLONGS, SQUARES, TABLES, none_below,
                           plain_minors, with_less, with_number)

PASCAL = ((1, 1, 1, 1), (1, 2, 3, 4), (1, 3, 6, 10), (1, 4, 10, 20))
ALL = TABLES + GOODS + BADS


def grids(rows, columns, numbers):
    """All tables of a size with numbers out of some."""
    for line in choices(numbers, repeat=rows * columns):
        yield tuple(tuple(line[row * columns:(row + 1) * columns]) for row in range(rows))


def very_good(table):
    return all(worth > 0 for rows, columns, worth in plain_minors(table))


class Samples(unittest.TestCase):
    def test_they_are_what_they_are_called(self):
        for table in GOODS:
            self.assertTrue(none_below(table), table)
        for table in BADS:
            self.assertFalse(none_below(table), table)


class FirstBad(unittest.TestCase):
    def test_told_ones(self):
        self.assertEqual(first_bad(((1, 2), (3, 4))), ((0, 1), (0, 1), -2))
        self.assertEqual(first_bad(((1, 2, -3), (-4, 5, 6))), ((0,), (2,), -3))
        self.assertEqual(first_bad(((1, 2), (-3, 4), (-5, 6))), ((1,), (0,), -3))
        self.assertEqual(first_bad(((1, 2, 3), (4, 9, 13))), ((0, 1), (1, 2), -1))
        self.assertEqual(first_bad(((1, 4), (2, 9), (3, 13))), ((1, 2), (0, 1), -1))
        self.assertEqual(first_bad(((1, 1, 0), (1, 1, 1), (0, 1, 1))), ((0, 1, 2), (0, 1, 2), -1))
        self.assertEqual(first_bad(((-FAR,),)), ((0,), (0,), -FAR))

    def test_none_of_good_ones(self):
        for table in GOODS:
            with self.subTest(table=table):
                self.assertIsNone(first_bad(table))

    def test_the_first_in_the_order_of_all_minors(self):
        for table in ALL:
            bad = [found for found in plain_minors(table) if found[2] < 0]
            with self.subTest(table=table):
                self.assertEqual(first_bad(table), bad[0] if bad else None)


class IsGood(unittest.TestCase):
    def test_good_ones_and_bad_ones(self):
        for table in GOODS:
            with self.subTest(table=table):
                self.assertIs(is_good(table), True)
        for table in BADS:
            with self.subTest(table=table):
                self.assertIs(is_good(table), False)

    def test_by_all_minors(self):
        for table in ALL:
            with self.subTest(table=table):
                self.assertIs(is_good(table), none_below(table))
                self.assertIs(is_very_good(table), very_good(table))

    def test_a_0_is_good_but_not_very_good(self):
        for table in [((0,),), ((1, 1), (1, 1)), ((1, 0), (0, 1)), ((1, 2, 0),), ((1, 2, 3), (1, 2, 4))]:
            with self.subTest(table=table):
                self.assertIs(is_good(table), True)
                self.assertIs(is_very_good(table), False)

    def test_very_good_ones(self):
        for table in [((1,),), ((1, 2), (3, 7)), PASCAL, ((5, 6, 7),), ((1,), (FAR,)), ((1, 1), (1, 2), (1, 3)),
                      ((1, 1, 1, 1), (1, 2, 4, 8), (1, 3, 9, 27))]:
            with self.subTest(table=table):
                self.assertIs(is_very_good(table), True)
                self.assertIs(is_good(table), True)

    def test_all_small_ones(self):
        for table in list(grids(2, 2, range(-1, 3))) + list(grids(2, 3, (0, 1, 2))) + list(grids(3, 2, (0, 1, 2))):
            self.assertIs(is_good(table), none_below(table), table)
            self.assertIs(is_very_good(table), very_good(table), table)


class HowGood(unittest.TestCase):
    def test_told_ones(self):
        self.assertEqual(how_good(((1, 2), (3, 4))), 1)
        self.assertEqual(how_good(((1, 2), (-3, 4))), 0)
        self.assertEqual(how_good(((-1, 0), (0, -1))), 0)
        self.assertEqual(how_good(((1, 1, 0), (1, 1, 1), (0, 1, 1))), 2)
        self.assertEqual(how_good(((3, 2, 0), (2, 2, 2), (1, 2, 3))), 2)
        self.assertEqual(how_good(((1, 0, 1), (0, 1, 0), (0, 0, 1))), 1)
        self.assertEqual(how_good(((3, 2, 0, 0), (2, 3, 2, 0), (0, 2, 3, 2), (0, 0, 2, 3))), 3)
        self.assertEqual(how_good(with_number(PASCAL, 3, 3, 18)), 2)
        self.assertEqual(how_good(with_number(PASCAL, 3, 3, 16)), 1)
        self.assertEqual(how_good(with_number(PASCAL, 3, 3, -1)), 0)
        self.assertEqual(how_good(((2, 1, -1),)), 0)
        self.assertEqual(how_good(((0,), (-1,))), 0)
        self.assertEqual(how_good(((1, 2, 3), (4, 9, 13))), 1)
        self.assertEqual(how_good(((FAR, -1), (FAR, FAR))), 0)

    def test_of_good_ones_the_greatest_size(self):
        for table in GOODS:
            with self.subTest(table=table):
                self.assertEqual(how_good(table), min(len(table), len(table[0])))

    def test_by_all_minors(self):
        for table in ALL:
            bad = [len(rows) for rows, columns, worth in plain_minors(table) if worth < 0]
            with self.subTest(table=table):
                self.assertEqual(how_good(table), min(bad) - 1 if bad else min(len(table), len(table[0])))


def stand_together(places):
    return places == tuple(range(places[0], places[0] + len(places)))


class FewMinors(unittest.TestCase):
    def test_told_solid_ones(self):
        self.assertEqual(solid_minors(((1, 2, 3), (4, 5, 7))), [
            ((0,), (0,), 1), ((0,), (1,), 2), ((0,), (2,), 3),
            ((1,), (0,), 4), ((1,), (1,), 5), ((1,), (2,), 7),
            ((0, 1), (0, 1), -3), ((0, 1), (1, 2), -1),
        ])
        self.assertEqual(solid_minors(((-7,),)), [((0,), (0,), -7)])

    def test_told_first_ones(self):
        self.assertEqual(first_minors(((1, 2, 3), (4, 5, 7))), [
            ((0,), (0,), 1), ((0,), (1,), 2), ((0,), (2,), 3), ((1,), (0,), 4),
            ((0, 1), (0, 1), -3), ((0, 1), (1, 2), -1),
        ])
        self.assertEqual(first_minors(((1, 4), (2, 5), (3, 7))), [
            ((0,), (0,), 1), ((0,), (1,), 4), ((1,), (0,), 2), ((2,), (0,), 3),
            ((0, 1), (0, 1), -3), ((1, 2), (0, 1), -1),
        ])
        self.assertEqual(first_minors(((-7,),)), [((0,), (0,), -7)])

    def test_just_those_in_order(self):
        for table in ALL:
            solid = [found for found in plain_minors(table)
                     if stand_together(found[0]) and stand_together(found[1])]
            first = [found for found in solid if 0 in found[0] or 0 in found[1]]
            with self.subTest(table=table):
                self.assertEqual(solid_minors(table), solid)
                self.assertEqual(first_minors(table), first)

    def test_how_many(self):
        self.assertEqual(len(solid_minors(PASCAL)), 16 + 9 + 4 + 1)
        self.assertEqual(len(first_minors(PASCAL)), 7 + 5 + 3 + 1)


class ByFew(unittest.TestCase):
    def test_the_same_as_by_all(self):
        for table in ALL:
            if len(table) == len(table[0]):
                with self.subTest(table=table):
                    self.assertIs(is_very_good_by_few(table), is_very_good(table))

    def test_both_are_found(self):
        for table in [((1,),), ((1, 2), (3, 7)), ((1, 1, 1), (1, 2, 4), (1, 3, 9)), PASCAL]:
            with self.subTest(table=table):
                self.assertIs(is_very_good_by_few(table), True)
        for table in [((0,),), ((-1,),), ((1, 2), (3, 6)), ((1, 1, 1), (1, 2, 3), (1, 3, 5)),
                      with_number(PASCAL, 3, 3, 19), with_number(PASCAL, 0, 3, 0)]:
            with self.subTest(table=table):
                self.assertIs(is_very_good_by_few(table), False)

    def test_all_small_ones(self):
        for table in list(grids(1, 1, range(-2, 3))) + list(grids(2, 2, range(-1, 4))):
            self.assertIs(is_very_good_by_few(table), very_good(table), table)
        for corner in grids(2, 2, range(1, 6)):
            table = ((1, 1, 1), (1,) + corner[0], (1,) + corner[1])
            self.assertIs(is_very_good_by_few(table), very_good(table), table)

    def test_each_first_minor_counts(self):
        # One number is changed at a time, so that one minor after the other falls to 0 or below.
        for number in range(-1, 3):
            for row, column in choices(range(4), repeat=2):
                table = with_number(PASCAL, row, column, PASCAL[row][column] - number)
                self.assertIs(is_very_good_by_few(table), very_good(table), table)

    def test_not_square(self):
        for table in OBLONGS + [table for table in GOODS if len(table) != len(table[0])]:
            with self.subTest(table=table), self.assertRaises(NoFit):
                is_very_good_by_few(table)


class Kept(unittest.TestCase):
    def check(self, table):
        self.assertIs(is_good(table), True, table)
        self.assertTrue(none_below(table), table)

    def test_products(self):
        for one in GOODS:
            for other in GOODS:
                if len(one[0]) == len(other):
                    self.check(times(one, other))

    def test_parts(self):
        for table in GOODS:
            for many in range(1, len(table) + 1):
                for rows in combinations(range(len(table)), many):
                    for wide in range(1, len(table[0]) + 1):
                        for columns in combinations(range(len(table[0])), wide):
                            self.check(part(table, rows, columns))

    def test_turned_and_flipped(self):
        for table in GOODS:
            self.check(turned(table))
            self.check(flipped(table))
        for table in BADS:
            self.assertIs(is_good(turned(table)), False)
            self.assertIs(is_good(flipped(table)), False)

    def test_unsigned_back(self):
        for table in GOODS:
            if len(table) == len(table[0]):
                self.check(unsigned_back(table))

    def test_more_at_the_first_or_the_last_number(self):
        for table in GOODS:
            for more in [1, 2, 99, FAR]:
                self.check(with_number(table, 0, 0, table[0][0] + more))
                self.check(with_number(table, -1, -1, table[-1][-1] + more))


class CornerRoom(unittest.TestCase):
    def test_told_ones(self):
        self.assertEqual(corner_room(((5,),)), (5, 1))
        self.assertEqual(corner_room(((0,),)), (0, 1))
        self.assertEqual(corner_room(((FAR,),)), (FAR, 1))
        self.assertEqual(corner_room(((3, 1, 7),)), (3, 1))
        self.assertEqual(corner_room(((3,), (0,), (7,))), (3, 1))
        self.assertEqual(corner_room(((1, 0), (0, 1))), (1, 1))
        self.assertEqual(corner_room(((1, 2), (3, 7))), (1, 7))
        self.assertEqual(corner_room(((2, 2), (2, 6))), (4, 3))
        self.assertEqual(corner_room(((4, 0), (5, 0))), (4, 1))
        self.assertEqual(corner_room(((1, 2, 3), (4, 9, 14))), (1, 9))
        self.assertEqual(corner_room(((1, 4), (2, 9), (3, 14))), (1, 9))
        self.assertEqual(corner_room(PASCAL), (1, 4))

    def test_nothing_goes(self):
        for table in [((1, 1), (1, 1)), ((0, 2), (0, 3)), ((0, 0, 1),), ((0,), (2,)), ((1, 2, 3), (1, 2, 4)),
                      ((0, 0), (0, 0)), ((1, 1, 1, 1),) * 4]:
            with self.subTest(table=table):
                self.assertEqual(corner_room(table), (0, 1))

    def test_none_of_bad_ones(self):
        for table in BADS:
            with self.subTest(table=table):
                self.assertIsNone(corner_room(table))

    def check_room(self, table):
        room = corner_room(table)
        self.assertIsInstance(room, tuple)
        up, down = room
        self.assertIs(type(up), int)
        self.assertIs(type(down), int)
        self.assertGreater(down, 0)
        self.assertGreaterEqual(up, 0)
        self.assertEqual(gcd(up, down), 1)
        self.assertTrue(none_below(with_less(table, room)), (table, room))
        for parts in [2, 3, 7]:
            self.assertTrue(none_below(with_less(table, (up, down * parts))), (table, room))
        for parts in [1, 10 ** 6, FAR ** 9]:
            more = Fraction(up, down) + Fraction(1, parts)
            self.assertFalse(none_below(with_less(table, (more.numerator, more.denominator))), (table, room))

    def test_less_by_no_more_is_good_and_by_more_is_not(self):
        for table in GOODS:
            with self.subTest(table=table):
                self.check_room(table)

    def test_all_small_ones(self):
        for table in list(grids(2, 2, range(4))) + list(grids(2, 3, (0, 1, 3))) + list(grids(3, 2, (0, 1, 3))):
            if none_below(table):
                self.check_room(table)
            else:
                self.assertIsNone(corner_room(table), table)

    def test_whole_rooms_by_is_good(self):
        for table in [((5, 1), (2, 1)), ((9, 2, 1), (3, 2, 1)), ((4,),), ((7, 0, 0), (3, 1, 0), (0, 0, 1))]:
            up, down = corner_room(table)
            self.assertEqual(down, 1)
            for less in range(up + 1):
                self.assertIs(is_good(with_number(table, 0, 0, table[0][0] - less)), True)
            self.assertIs(is_good(with_number(table, 0, 0, table[0][0] - up - 1)), False)


class HowManyOfBits(unittest.TestCase):
    SIZES = [(rows, columns) for rows in range(1, 5) for columns in range(1, 5) if rows * columns <= 6]

    def test_a_plain_count(self):
        self.assertEqual(len(self.SIZES), 10)
        for rows, columns in self.SIZES:
            with self.subTest(rows=rows, columns=columns):
                count = sum(1 for table in grids(rows, columns, (0, 1)) if none_below(table))
                self.assertEqual(how_many_of_bits(rows, columns), count)

    def test_told_ones(self):
        self.assertEqual(how_many_of_bits(1, 1), 2)
        self.assertEqual(how_many_of_bits(1, 4), 16)
        self.assertEqual(how_many_of_bits(4, 1), 16)
        self.assertEqual(how_many_of_bits(2, 2), 13)
        self.assertEqual(how_many_of_bits(2, 3), 38)
        self.assertEqual(how_many_of_bits(3, 2), 38)

    def test_somewhat_beyond(self):
        self.assertEqual(how_many_of_bits(5, 1), 32)
        self.assertEqual(how_many_of_bits(1, 5), 32)
        self.assertEqual(how_many_of_bits(3, 3), sum(1 for table in grids(3, 3, (0, 1)) if none_below(table)))


class Kinds(unittest.TestCase):
    def test_told_minors_are_those_of_all_minors(self):
        for table in SQUARES + GOOD_OTHERS + GOOD_SQUARES:
            for told in (solid_minors(table), first_minors(table)):
                self.assertIsInstance(told, list)
                for found in told:
                    self.assertIsInstance(found, tuple)
                    self.assertIn(found, all_minors(table))
