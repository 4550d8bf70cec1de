import unittest
from itertools import combinations, product as choices
from math import comb, prod

from minortables.errors import NoFit
from minortables.good import is_good, is_very_good
from minortables.kinds import by_sums, heaped, lesser, of_factors, powers, rolled, scaled
from minortables.tables import flipped, is_table, part, times, turned
from tests.samples import FAR, none_below, plain_minors, with_number

LISTS = [
    [0], [1], [-5], [FAR], [1, 2], [2, 1], [3, 3], [0, -1], [FAR, -FAR], [1, 2, 3], [0, 0, 0], [-2, 5, -7],
    [1, 2, 3, 4], [4, 3, 2, 1], [0, 1, -1, 0], [9, FAR, -3, 2],
]
LONG = [[1, 2, 3, 4, 5], [0] * 6, [-1, 2, -3, 4, -5, 6, -7]]
RISING = [[1], [7], [FAR], [1, 2], [3, 9], [1, FAR], [1, 2, 3], [2, 5, 11], [1, 2, 3, 4], [1, 3, 4, 9], [5, 6, 7, FAR]]
NOT_BELOW = [[], [0], [4], [0, 0], [1, 1], [2, 0, 3], [5, 1, 2], [1, 1, 1, 1], [3, 0, 2, 7], [1, 2, 3, 4, 5], [FAR, 2]]
NO_SIZES = [0, -1, -4, 5, 6, FAR]


def grid(many, tell):
    return tuple(tuple(tell(row, column) for column in range(many)) for row in range(many))


class SimpleKinds(unittest.TestCase):
    def test_told_ones(self):
        self.assertEqual(powers([2, 3, -1]), ((1, 2, 4), (1, 3, 9), (1, -1, 1)))
        self.assertEqual(powers([5]), ((1,),))
        self.assertEqual(powers([0, 0]), ((1, 0), (1, 0)))
        self.assertEqual(powers([1, 2, 3, 4]), ((1, 1, 1, 1), (1, 2, 4, 8), (1, 3, 9, 27), (1, 4, 16, 64)))
        self.assertEqual(by_sums(1), ((1,),))
        self.assertEqual(by_sums(2), ((1, 1), (1, 2)))
        self.assertEqual(by_sums(3), ((1, 1, 1), (1, 2, 3), (1, 3, 6)))
        self.assertEqual(by_sums(4), ((1, 1, 1, 1), (1, 2, 3, 4), (1, 3, 6, 10), (1, 4, 10, 20)))
        self.assertEqual(lesser([3, 1, 2]), ((3, 1, 2), (1, 1, 1), (2, 1, 2)))
        self.assertEqual(lesser([-4]), ((-4,),))
        self.assertEqual(scaled([3, 0, -2]), ((3, 0, 0), (0, 0, 0), (0, 0, -2)))
        self.assertEqual(scaled([FAR]), ((FAR,),))

    def test_each_number_at_its_place(self):
        for numbers in LISTS:
            many = len(numbers)
            kept = list(numbers)
            with self.subTest(numbers=numbers):
                self.assertEqual(powers(numbers), grid(many, lambda row, column: numbers[row] ** column))
                self.assertEqual(lesser(numbers), grid(many, lambda row, column: min(numbers[row], numbers[column])))
                self.assertEqual(scaled(numbers), grid(many, lambda row, column: numbers[row] * int(row == column)))
                self.assertEqual(numbers, kept)
        for many in range(1, 5):
            self.assertEqual(by_sums(many), grid(many, lambda row, column: comb(row + column, row)))

    def test_none_and_more_than_4(self):
        for told in (powers, lesser, scaled):
            for numbers in [[]] + LONG:
                with self.subTest(told=told.__name__, numbers=numbers), self.assertRaises(NoFit):
                    told(numbers)
        for many in NO_SIZES:
            with self.subTest(many=many), self.assertRaises(NoFit):
                by_sums(many)

    def test_they_are_tables(self):
        for told in (powers, lesser, scaled):
            for many in range(1, 5):
                self.assertIs(is_table(told([1, 2, 3, 4][:many])), True)
        for many in range(1, 5):
            self.assertIs(is_table(by_sums(many)), True)
            self.assertIs(is_table(rolled([1, 2], many)), True)
            self.assertIs(is_table(heaped([1], [2], many)), True)


class OfFactors(unittest.TestCase):
    def test_told_ones(self):
        self.assertEqual(of_factors([]), [1])
        self.assertEqual(of_factors([5]), [1, 5])
        self.assertEqual(of_factors([0]), [1, 0])
        self.assertEqual(of_factors([2, 3]), [1, 5, 6])
        self.assertEqual(of_factors([1, 1, 1, 1, 1]), [1, 5, 10, 10, 5, 1])
        self.assertEqual(of_factors([2, 0, 3]), [1, 5, 6, 0])
        self.assertEqual(of_factors([0, 0, 0]), [1, 0, 0, 0])
        self.assertEqual(of_factors([1, -1]), [1, 0, -1])

    def test_what_stands_with_each_power(self):
        for numbers in LISTS + LONG + NOT_BELOW:
            kept = list(numbers)
            asked = [sum(prod(some) for some in combinations(numbers, power)) for power in range(len(numbers) + 1)]
            with self.subTest(numbers=numbers):
                told = of_factors(numbers)
                self.assertIsInstance(told, list)
                self.assertEqual(told, asked)
                self.assertEqual(len(told), len(numbers) + 1)
                self.assertEqual(numbers, kept)

    def test_at_some_x(self):
        for numbers in LISTS + LONG:
            for x in [-3, 0, 1, 7]:
                told = sum(number * x ** power for power, number in enumerate(of_factors(numbers)))
                self.assertEqual(told, prod(1 + number * x for number in numbers))


class Rolled(unittest.TestCase):
    def test_told_ones(self):
        self.assertEqual(rolled([1, 2], 3), ((1, 2, 0), (0, 1, 2), (0, 0, 1)))
        self.assertEqual(rolled([1, 2, 3, 4, 5, 6], 2), ((1, 2), (0, 1)))
        self.assertEqual(rolled([1, 2, 3, 4], 4), ((1, 2, 3, 4), (0, 1, 2, 3), (0, 0, 1, 2), (0, 0, 0, 1)))
        self.assertEqual(rolled([], 2), ((0, 0), (0, 0)))
        self.assertEqual(rolled([7], 1), ((7,),))
        self.assertEqual(rolled([-1], 2), ((-1, 0), (0, -1)))

    def test_longer_and_shorter_lists(self):
        for some in [[]] + LISTS + LONG:
            kept = list(some)
            for many in range(1, 5):
                at = dict(enumerate(some))
                asked = grid(many, lambda row, column: at.get(column - row, 0))
                with self.subTest(some=some, many=many):
                    self.assertEqual(rolled(some, many), asked)
                    self.assertEqual(some, kept)

    def test_many_that_is_not_from_1_to_4(self):
        for many in NO_SIZES:
            for some in [[], [1], [1, 2, 3, 4, 5]]:
                with self.subTest(many=many, some=some), self.assertRaises(NoFit):
                    rolled(some, many)


class Heaped(unittest.TestCase):
    def test_told_ones(self):
        self.assertEqual(heaped([2], [3], 2), ((3, 6), (6, 12)))
        self.assertEqual(heaped([1, 2], [1, 1], 3), ((2, 3, 5), (3, 5, 9), (5, 9, 17)))
        self.assertEqual(heaped([0], [5], 3), ((5, 0, 0), (0, 0, 0), (0, 0, 0)))
        self.assertEqual(heaped([], [], 2), ((0, 0), (0, 0)))
        self.assertEqual(heaped([-1], [4], 2), ((4, -4), (-4, 4)))

    def test_each_number_at_its_place(self):
        for numbers in [[]] + LISTS + LONG:
            for weights in [[1] * len(numbers), [0] * len(numbers), [3, -1, 0, 5, 2, FAR, 8][:len(numbers)]]:
                kept = (list(numbers), list(weights))
                for many in range(1, 5):
                    asked = grid(many, lambda row, column: sum(
                        weight * number ** (row + column) for number, weight in zip(numbers, weights)))
                    with self.subTest(numbers=numbers, weights=weights, many=many):
                        self.assertEqual(heaped(numbers, weights, many), asked)
                        self.assertEqual((numbers, weights), kept)

    def test_many_that_is_not_from_1_to_4(self):
        for many in NO_SIZES:
            for numbers in [[], [1], [1, 2, 3, 4, 5]]:
                with self.subTest(many=many, numbers=numbers), self.assertRaises(NoFit):
                    heaped(numbers, numbers, many)


class GoodKinds(unittest.TestCase):
    def check_very_good(self, table):
        self.assertIs(is_very_good(table), True, table)
        self.assertTrue(all(worth > 0 for rows, columns, worth in plain_minors(table)), table)

    def check_good(self, table):
        self.assertIs(is_good(table), True, table)
        self.assertTrue(none_below(table), table)

    def test_powers_of_rising_numbers_above_0(self):
        for numbers in RISING:
            self.check_very_good(powers(numbers))
        for many in range(1, 5):
            for numbers in combinations(range(1, 7), many):
                self.check_very_good(powers(list(numbers)))

    def test_by_sums(self):
        for many in range(1, 5):
            self.check_very_good(by_sums(many))

    def test_lesser_of_rising_numbers(self):
        for numbers in RISING:
            self.check_good(lesser(numbers))
        for many in range(1, 5):
            for numbers in combinations(range(6), many):
                self.check_good(lesser(list(numbers)))

    def test_rolled_of_factors(self):
        for numbers in NOT_BELOW:
            for many in range(1, 5):
                self.check_good(rolled(of_factors(numbers), many))
        for numbers in choices(range(3), repeat=3):
            self.check_good(rolled(of_factors(list(numbers)), 4))

    def test_heaped(self):
        for numbers in NOT_BELOW:
            for weights in NOT_BELOW:
                if len(numbers) == len(weights):
                    for many in range(1, 5):
                        self.check_good(heaped(numbers, weights, many))
        for numbers in choices(range(3), repeat=3):
            self.check_good(heaped(list(numbers), [2, 0, 3], 3))

    def test_not_all_others_are_good(self):
        for table in [powers([2, 1]), powers([-1]*2 + [3]), lesser([2, 1, 3]), lesser([-1]), rolled([1, 1, 2], 3),
                      rolled(of_factors([1, -1]), 3), heaped([-1], [1], 2), heaped([1], [-1], 1)]:
            self.assertIs(is_good(table), False, table)

    def test_what_is_made_of_them(self):
        for many in range(1, 5):
            made = [by_sums(many), powers([1, 2, 3, 4][:many]), lesser([0, 1, 1, 5][:many]),
                    scaled([2, 0, 1, 3][:many]), rolled(of_factors([1, 2]), many), heaped([0, 1, 3], [1, 2, 1], many)]
            for one in made:
                self.check_good(turned(one))
                self.check_good(flipped(one))
                for size in range(1, many + 1):
                    for rows, columns in choices(combinations(range(many), size), repeat=2):
                        self.check_good(part(one, rows, columns))
                for more in [1, 7, FAR]:
                    self.check_good(with_number(one, 0, 0, one[0][0] + more))
                    self.check_good(with_number(one, -1, -1, one[-1][-1] + more))
                for other in made:
                    self.check_good(times(one, other))
