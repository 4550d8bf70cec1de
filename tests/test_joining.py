import unittest
from itertools import product as choices

from minortables.errors import NoFit, NoPlace, NoTable
from minortables.good import is_good
from minortables.joining import row_added, rows_exchanged, set_aslant, set_below, set_beside
from minortables.minors import whole_minor
from tests.samples import BADS, FAR, GOODS, NO_SINGLE_PLACE, NO_TABLES, TABLES, none_below

ALL = TABLES + GOODS + BADS


class SetTogether(unittest.TestCase):
    def test_told_ones(self):
        self.assertEqual(set_below(((1, 2),), ((3, 4), (5, 6))), ((1, 2), (3, 4), (5, 6)))
        self.assertEqual(set_beside(((1,), (2,)), ((3, 4), (5, 6))), ((1, 3, 4), (2, 5, 6)))
        self.assertEqual(set_aslant(((1, 2),), ((3,), (4,))), ((1, 2, 0), (0, 0, 3), (0, 0, 4)))
        self.assertEqual(set_aslant(((FAR,),), ((-1,),)), ((FAR, 0), (0, -1)))

    def test_set_below(self):
        for one, other in choices(ALL, repeat=2):
            if len(one[0]) == len(other[0]) and len(one) + len(other) <= 4:
                self.assertEqual(set_below(one, other), one + other)
            else:
                with self.subTest(one=one, other=other), self.assertRaises(NoFit):
                    set_below(one, other)

    def test_set_beside(self):
        for one, other in choices(ALL, repeat=2):
            if len(one) == len(other) and len(one[0]) + len(other[0]) <= 4:
                asked = tuple(row + more for row, more in zip(one, other))
                self.assertEqual(set_beside(one, other), asked)
            else:
                with self.subTest(one=one, other=other), self.assertRaises(NoFit):
                    set_beside(one, other)

    def test_set_aslant(self):
        for one, other in choices(ALL, repeat=2):
            if len(one) + len(other) <= 4 and len(one[0]) + len(other[0]) <= 4:
                told = set_aslant(one, other)
                self.assertEqual(len(told), len(one) + len(other))
                for row, line in enumerate(told):
                    self.assertEqual(len(line), len(one[0]) + len(other[0]))
                    for column, number in enumerate(line):
                        below, right = row - len(one), column - len(one[0])
                        if below < 0 and right < 0:
                            self.assertEqual(number, one[row][column])
                        elif below >= 0 and right >= 0:
                            self.assertEqual(number, other[below][right])
                        else:
                            self.assertEqual(number, 0)
            else:
                with self.subTest(one=one, other=other), self.assertRaises(NoFit):
                    set_aslant(one, other)

    def test_up_to_4_and_no_more(self):
        for one, other in choices(range(1, 5), repeat=2):
            tall, taller = ((1, 2),) * one, ((3, 4),) * other
            wide, wider = ((1,) * one,) * 2, ((3,) * other,) * 2
            if one + other <= 4:
                self.assertEqual(len(set_below(tall, taller)), one + other)
                self.assertEqual(len(set_beside(wide, wider)[0]), one + other)
                self.assertEqual(len(set_aslant(tall, taller)), one + other)
                self.assertEqual(len(set_aslant(wide, wider)[0]), one + other)
            else:
                for told, first, last in [(set_below, tall, taller), (set_beside, wide, wider),
                                          (set_aslant, tall, taller), (set_aslant, wide, wider)]:
                    with self.subTest(told=told.__name__, one=one, other=other), self.assertRaises(NoFit):
                        told(first, last)

    def test_aslant_it_is_good_just_if_both_are(self):
        found = {True: 0, False: 0}
        for one, other in choices(GOODS + BADS, repeat=2):
            if len(one) + len(other) <= 4 and len(one[0]) + len(other[0]) <= 4:
                both = none_below(one) and none_below(other)
                found[both] += 1
                with self.subTest(one=one, other=other):
                    self.assertIs(is_good(set_aslant(one, other)), both)
        self.assertGreater(min(found.values()), 20)


class Rows(unittest.TestCase):
    def test_told_ones(self):
        table = ((1, 2), (3, 4), (5, 6))
        self.assertEqual(rows_exchanged(table, 0, 2), ((5, 6), (3, 4), (1, 2)))
        self.assertEqual(rows_exchanged(table, 1, 0), ((3, 4), (1, 2), (5, 6)))
        self.assertEqual(rows_exchanged(table, 1, 1), table)
        self.assertEqual(row_added(table, 0, 2, 1), ((1, 2), (3, 4), (6, 8)))
        self.assertEqual(row_added(table, 2, 0, 10), ((51, 62), (3, 4), (5, 6)))
        self.assertEqual(row_added(table, 0, 1, -3), ((1, 2), (0, -2), (5, 6)))
        self.assertEqual(row_added(table, 0, 1, 0), table)

    def test_all_rows_exchanged(self):
        for table in ALL:
            for one, other in choices(range(len(table)), repeat=2):
                lines = list(table)
                lines[one], lines[other] = lines[other], lines[one]
                self.assertEqual(rows_exchanged(table, one, other), tuple(lines))

    def test_all_rows_added(self):
        for table in ALL:
            for one, other in choices(range(len(table)), repeat=2):
                for many in [-FAR, -2, -1, 0, 1, 3, FAR]:
                    if one != other:
                        lines = list(table)
                        lines[other] = tuple(x + many * y for x, y in zip(table[other], table[one]))
                        told = row_added(table, one, other, many)
                        self.assertEqual(told, tuple(lines))
                        self.assertIsInstance(told[other], tuple)

    def test_what_the_whole_comes_to(self):
        for table in ALL:
            if len(table) == len(table[0]) > 1:
                self.assertEqual(whole_minor(rows_exchanged(table, 0, len(table) - 1)), -whole_minor(table))
                self.assertEqual(whole_minor(row_added(table, 0, len(table) - 1, 5)), whole_minor(table))

    def test_what_is_no_row(self):
        for table in ALL:
            for thing in NO_SINGLE_PLACE + [len(table), -len(table)]:
                for one, other in [(thing, 0), (0, thing), (thing, thing), (thing, None), (None, thing)]:
                    with self.subTest(table=table, one=one, other=other):
                        with self.assertRaises(NoPlace):
                            rows_exchanged(table, one, other)
                        with self.assertRaises(NoPlace):
                            row_added(table, one, other, 2)

    def test_the_same_row_is_not_added(self):
        for table in ALL:
            for row in range(len(table)):
                for many in [-1, 0, 1]:
                    with self.subTest(table=table, row=row, many=many), self.assertRaises(NoPlace):
                        row_added(table, row, row, many)

    def test_no_table_comes_ahead_of_no_place(self):
        for thing in NO_TABLES:
            for one, other in [(0, 0), (-1, 0), (0, None), (True, "0"), ([0], (1,))]:
                with self.subTest(thing=thing, one=one, other=other):
                    with self.assertRaises(NoTable):
                        rows_exchanged(thing, one, other)
                    with self.assertRaises(NoTable):
                        row_added(thing, one, other, 1)
