import unittest
from itertools import product as choices

from minortables.errors import NoFit
from minortables.good import is_very_good
from minortables.kinds import by_sums, powers, scaled
from minortables.signs import all_rows, least_changes, led, most_changes, row_with_more
from minortables.tables import times
from tests.samples import BADS, FAR, GOODS, SQUARES, TABLES, product

ROWS = [list(row) for many in range(7) for row in choices((-2, 0, 3), repeat=many)]


def plain_changes(signs):
    return sum(1 for one, other in zip(signs, signs[1:]) if one * other < 0)


def by_all_signs(numbers):
    """The most changes, by a look through all signs that each 0 can be put for."""
    free = [(1, -1) if number == 0 else (number,) for number in numbers]
    return max(plain_changes(signs) for signs in choices(*free))


class Changes(unittest.TestCase):
    def test_told_least_ones(self):
        for numbers, asked in [([], 0), ([0], 0), ([5], 0), ([-5], 0), ([0, 0, 0], 0), ([1, -1], 1), ([-1, 1], 1),
                               ([1, 1], 0), ([-1, -2], 0), ([1, 0, -1], 1), ([1, 0, 1], 0), ([0, 1, 0, -1, 0], 1),
                               ([1, -1, 1, -1], 3), ([-3, 0, 0, 2, 0, 2, -FAR], 2), ([0, -1], 0), ([-1, 0], 0)]:
            with self.subTest(numbers=numbers):
                self.assertEqual(least_changes(numbers), asked)
                self.assertEqual(least_changes(tuple(numbers)), asked)

    def test_told_most_ones(self):
        for numbers, asked in [([], 0), ([0], 0), ([5], 0), ([-5], 0), ([0, 0], 1), ([0, 0, 0], 2), ([1, -1], 1),
                               ([1, 1], 0), ([-1, -2], 0), ([1, 0, -1], 1), ([1, 0, 1], 2), ([-1, 0, 0, -1], 2),
                               ([-1, 0, 0, 1], 3), ([0, 1], 1), ([0, 0, 1], 2), ([1, 0, 0], 2), ([0, -1, 0], 2),
                               ([0, 1, 0, -1, 0], 3), ([-3, 0, 0, 2, 0, 2, -FAR], 6)]:
            with self.subTest(numbers=numbers):
                self.assertEqual(most_changes(numbers), asked)
                self.assertEqual(most_changes(tuple(numbers)), asked)

    def test_least_with_0_left_out(self):
        for numbers in ROWS:
            kept = list(numbers)
            self.assertEqual(least_changes(numbers), plain_changes([number for number in numbers if number != 0]))
            self.assertEqual(numbers, kept)

    def test_most_by_all_signs(self):
        for numbers in ROWS:
            kept = list(numbers)
            self.assertEqual(most_changes(numbers), by_all_signs(numbers), numbers)
            self.assertEqual(numbers, kept)

    def test_both_are_the_same_without_0(self):
        for numbers in ROWS:
            if 0 not in numbers:
                self.assertEqual(least_changes(numbers), most_changes(numbers))


class Led(unittest.TestCase):
    def test_told_ones(self):
        self.assertEqual(led(((1, 2), (3, 4)), [5, 6]), (17, 39))
        self.assertEqual(led(((1, 2), (3, 4)), (5, 6)), (17, 39))
        self.assertEqual(led(((1, -2, 3),), [1, 1, 0]), (-1,))
        self.assertEqual(led(((2,), (0,), (-FAR,)), [3]), (6, 0, -3 * FAR))

    def test_as_a_product(self):
        for table in TABLES:
            for numbers in [[0] * len(table[0]), [3, -1, 0, FAR][:len(table[0])], [1, 2, 3, 4][:len(table[0])]]:
                kept = list(numbers)
                asked = product(table, tuple((number,) for number in numbers))
                with self.subTest(table=table, numbers=numbers):
                    told = led(table, numbers)
                    self.assertIsInstance(told, tuple)
                    self.assertEqual(told, tuple(row[0] for row in asked))
                    self.assertEqual(numbers, kept)

    def test_not_as_many_numbers(self):
        for table in TABLES:
            for many in range(6):
                if many != len(table[0]):
                    with self.subTest(table=table, many=many), self.assertRaises(NoFit):
                        led(table, [1] * many)


class AllRows(unittest.TestCase):
    def test_told_ones(self):
        self.assertEqual(all_rows(1, 2), [(-2,), (-1,), (0,), (1,), (2,)])
        self.assertEqual(all_rows(2, 1), [(-1, -1), (-1, 0), (-1, 1), (0, -1), (0, 0), (0, 1), (1, -1), (1, 0), (1, 1)])
        self.assertEqual(all_rows(3, 0), [(0, 0, 0)])

    def test_rising_and_all_of_them(self):
        for many in range(1, 5):
            for most in range(4):
                told = all_rows(many, most)
                self.assertIsInstance(told, list)
                self.assertEqual(told, list(choices(range(-most, most + 1), repeat=many)))
                self.assertEqual(told, sorted(set(told)))
                self.assertEqual(len(told), (2 * most + 1) ** many)

    def test_somewhat_beyond(self):
        self.assertEqual(len(all_rows(5, 1)), 3 ** 5)


class RowWithMore(unittest.TestCase):
    def test_told_ones(self):
        self.assertEqual(row_with_more(((-1, 0), (0, 1)), 1), (-1, -1))
        self.assertEqual(row_with_more(((1, 2), (3, 4)), 2), None)
        self.assertEqual(row_with_more(((1, 2), (3, 1)), 0), None)
        self.assertEqual(row_with_more(((1, 0), (-1, 0)), 1), (-1, -1))
        self.assertEqual(row_with_more(((1,), (-1,)), 1), (-1,))
        self.assertEqual(row_with_more(((1, 0, 1), (0, 1, 0), (1, 0, 1)), 1), (-1, 1, 0))
        self.assertEqual(row_with_more(((1, 0, 0), (0, 0, 1), (0, 1, 0)), 1), (-1, -1, 1))

    def test_the_first_one_or_none(self):
        found = 0
        for table in SQUARES + BADS + TABLES:
            most = 2 if len(table[0]) < 4 else 1
            asked = None
            for row in choices(range(-most, most + 1), repeat=len(table[0])):
                behind = [line[0] for line in product(table, tuple((number,) for number in row))]
                more = plain_changes([number for number in behind if number != 0])
                if more > plain_changes([number for number in row if number != 0]):
                    asked = row
                    found += 1
                    break
            with self.subTest(table=table):
                self.assertEqual(row_with_more(table, most), asked)
        self.assertGreater(found, 10)

    def test_more_is_found_farther_off(self):
        table = ((5, 7), (5, 8), (5, 7))
        self.assertEqual([row_with_more(table, most) for most in (0, 1, 2)], [None, None, None])
        self.assertEqual(row_with_more(table, 3), (-3, 2))

    def test_none_of_good_ones(self):
        for table in GOODS:
            for most in range(4 if len(table[0]) < 4 else 3):
                with self.subTest(table=table, most=most):
                    self.assertIsNone(row_with_more(table, most))


class VeryGood(unittest.TestCase):
    TABLES = [by_sums(many) for many in range(1, 5)] + [
        ((5,),), ((1, 2), (3, 7)), powers([1, 2, 4]), powers([1, 2, 3, 4]), powers([2, 3, 5, 9]),
        times(by_sums(3), powers([1, 3, 4])), times(by_sums(4), scaled([2, 1, 5, 3])),
    ]

    def test_they_are_very_good(self):
        for table in self.TABLES:
            self.assertIs(is_very_good(table), True)

    def test_no_more_most_changes_than_least_ones_ahead(self):
        for table in self.TABLES:
            for row in all_rows(len(table), 3 if len(table) < 4 else 2):
                if any(row):
                    self.assertLessEqual(most_changes(led(table, row)), least_changes(row), (table, row))

    def test_of_0_alone_there_are_more(self):
        for table in self.TABLES:
            if len(table) > 1:
                row = (0,) * len(table)
                self.assertGreater(most_changes(led(table, row)), least_changes(row))

    def test_they_reach_as_many(self):
        # No fewer would do, so what is told is not held by emptiness alone.
        for table in self.TABLES:
            many = len(table)
            reached = [most_changes(led(table, row)) for row in all_rows(many, 3 if many < 4 else 2) if any(row)]
            self.assertLessEqual(max(reached), many - 1)
            self.assertGreaterEqual(max(reached), min(many - 1, 1))
