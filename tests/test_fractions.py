import unittest
from fractions import Fraction

from minortables.errors import NoTable
from minortables.fractions import (all_sum, all_times, as_fractions, as_whole, is_fraction, less_of, parted, sum_of,
                                   times_of)
from tests.samples import BADS, BELOW, FAR, FRACTIONS, GOODS, NO_FRACTIONS, NO_TABLES, TABLES

BOTH = FRACTIONS + BELOW

HALVES = (((1, 2), (3, 1)), ((0, 1), (-5, 4)))

# None of these is a table of fractions.
NO_FRACTION_TABLES = NO_TABLES + TABLES + [
    (),
    ((),),
    (((1, 2),),) * 5,
    (((1, 2),) * 5,),
    (((1, 2), (1, 3)), ((1, 4),)),
    [[(1, 2), (1, 3)]],
    ([(1, 2), (1, 3)],),
    [((1, 2), (1, 3))],
    (([1, 2], [1, 3]),),
    ((1, 2),),
    (1, 2),
] + [(((1, 2), thing), ((3, 4), (5, 6))) for thing in NO_FRACTIONS] + [((thing,),) for thing in NO_FRACTIONS]


def told_as(number):
    return (number.numerator, number.denominator)


class IsFraction(unittest.TestCase):
    def test_fractions(self):
        for thing in FRACTIONS:
            with self.subTest(thing=thing):
                self.assertIs(is_fraction(thing), True)

    def test_those_below_0(self):
        for thing in BELOW:
            with self.subTest(thing=thing):
                self.assertIs(is_fraction(thing), False)

    def test_any_other_thing(self):
        for thing in NO_FRACTIONS:
            with self.subTest(thing=thing):
                self.assertIs(is_fraction(thing), False)

    def test_all_small_ones(self):
        for up in range(-12, 25):
            for down in range(-12, 25):
                asked = down > 0 and up >= 0 and told_as(Fraction(up, down)) == (up, down)
                self.assertIs(is_fraction((up, down)), asked, (up, down))


class Reckoning(unittest.TestCase):
    def check(self, told, asked):
        self.assertEqual(told, told_as(asked))
        self.assertIsInstance(told, tuple)
        for number in told:
            self.assertIs(type(number), int)

    def test_told_ones(self):
        self.assertEqual(sum_of((1, 2), (1, 3)), (5, 6))
        self.assertEqual(sum_of((1, 2), (1, 2)), (1, 1))
        self.assertEqual(sum_of((1, 2), (-1, 2)), (0, 1))
        self.assertEqual(times_of((2, 3), (3, 4)), (1, 2))
        self.assertEqual(times_of((-2, 3), (0, 1)), (0, 1))
        self.assertEqual(less_of((1, 3), (1, 2)), (-1, 6))
        self.assertEqual(less_of((3, 4), (1, 4)), (1, 2))
        self.assertEqual(parted((1, 2), (3, 4)), (2, 3))
        self.assertEqual(parted((1, 2), (-3, 4)), (-2, 3))
        self.assertEqual(parted((-1, 2), (-3, 4)), (2, 3))
        self.assertEqual(parted((0, 1), (-3, 4)), (0, 1))

    def test_each_two(self):
        for one in BOTH:
            for other in BOTH:
                left, right = Fraction(*one), Fraction(*other)
                with self.subTest(one=one, other=other):
                    self.check(sum_of(one, other), left + right)
                    self.check(times_of(one, other), left * right)
                    self.check(less_of(one, other), left - right)
                    if right != 0:
                        self.check(parted(one, other), left / right)

    def test_all_small_ones(self):
        some = [Fraction(up, down) for up in range(-4, 5) for down in range(1, 5)]
        for left in some:
            for right in some:
                one, other = told_as(left), told_as(right)
                self.check(sum_of(one, other), left + right)
                self.check(times_of(one, other), left * right)
                self.check(less_of(one, other), left - right)
                if right != 0:
                    self.check(parted(one, other), left / right)


class AllOfThem(unittest.TestCase):
    def test_of_none(self):
        self.assertEqual(all_sum([]), (0, 1))
        self.assertEqual(all_times([]), (1, 1))

    def test_of_one(self):
        for one in BOTH:
            self.assertEqual(all_sum([one]), one)
            self.assertEqual(all_times([one]), one)

    def test_of_several(self):
        self.assertEqual(all_sum([(1, 2), (1, 3), (1, 6)]), (1, 1))
        self.assertEqual(all_sum([(1, 2), (-1, 3), (-1, 6)]), (0, 1))
        self.assertEqual(all_times([(1, 2), (2, 3), (-3, 4)]), (-1, 4))
        self.assertEqual(all_times([(1, 2), (0, 1), (-3, 4)]), (0, 1))
        together, along = Fraction(0), Fraction(1)
        for one in BOTH:
            together += Fraction(*one)
            if one[0] != 0:
                along *= Fraction(*one)
        self.assertEqual(all_sum(BOTH), told_as(together))
        self.assertEqual(all_times([one for one in BOTH if one[0] != 0]), told_as(along))

    def test_the_list_is_not_changed(self):
        some = [(1, 2), (-1, 3), (5, 1)]
        all_sum(some)
        all_times(some)
        self.assertEqual(some, [(1, 2), (-1, 3), (5, 1)])


class TablesOfFractions(unittest.TestCase):
    def test_told_ones(self):
        self.assertEqual(as_fractions(((1, -2, 0),)), (((1, 1), (-2, 1), (0, 1)),))
        self.assertEqual(as_fractions(((1, 2), (3, FAR))), (((1, 1), (2, 1)), ((3, 1), (FAR, 1))))
        self.assertEqual(as_whole((((1, 1), (-2, 1), (0, 1)),)), ((1, -2, 0),))
        self.assertEqual(as_whole((((5, 1),), ((FAR, 1),))), ((5,), (FAR,)))

    def test_there_and_back(self):
        for table in TABLES + GOODS + BADS:
            with self.subTest(table=table):
                asked = tuple(tuple((number, 1) for number in row) for row in table)
                self.assertEqual(as_fractions(table), asked)
                self.assertEqual(as_whole(asked), table)

    def test_not_all_whole(self):
        self.assertIsNone(as_whole(HALVES))
        for row in range(2):
            for column in range(3):
                for number in [(1, 2), (-1, 2), (7, 3), (1, FAR)]:
                    lines = [[(1, 1)] * 3, [(2, 1)] * 3]
                    lines[row][column] = number
                    table = tuple(tuple(line) for line in lines)
                    with self.subTest(table=table):
                        self.assertIsNone(as_whole(table))

    def test_as_whole_of_no_table_of_fractions(self):
        for thing in NO_FRACTION_TABLES:
            with self.subTest(thing=thing), self.assertRaises(NoTable):
                as_whole(thing)

    def test_as_fractions_of_no_table(self):
        for thing in NO_TABLES + [HALVES, as_fractions(((1, 2), (3, 4)))]:
            with self.subTest(thing=thing), self.assertRaises(NoTable):
                as_fractions(thing)

    def test_kinds(self):
        for table in TABLES:
            told = as_fractions(table)
            self.assertIsInstance(told, tuple)
            for row in told + as_whole(told):
                self.assertIsInstance(row, tuple)
            for row in told:
                for number in row:
                    self.assertIsInstance(number, tuple)
                    self.assertEqual(len(number), 2)
