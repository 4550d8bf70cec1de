"""What holds of all functions together: what they refuse, in which order, and what they leave as it was."""

import unittest
from copy import deepcopy

from minortables.cases import Case
from minortables.errors import NoFit, NoPlace, NoSteps, NoTable
from minortables.fractions import as_fractions, as_whole
from minortables.good import (corner_room, first_bad, first_minors, how_good, is_good, is_very_good,
                              is_very_good_by_few, solid_minors)
from minortables.joining import row_added, rows_exchanged, set_aslant, set_below, set_beside
from minortables.kinds import heaped, lesser, of_factors, powers, rolled, scaled
from minortables.measuring import go_together, is_even, power, signs_in, slant_sum, sums, unlike_places
from minortables.minors import all_minors, by_row, minor, pairs, rank, turned_back, unsigned_back, whole_minor
from minortables.nets import all_sets, sets_of_ways, share_of_sets, share_of_ways, ways
from minortables.signs import all_rows, least_changes, led, most_changes, row_with_more
from minortables.steps import can_be_taken_apart, flipped_steps, made_by, product_of, taken_apart, turned_steps
from minortables.tables import flipped, is_table, part, plus, times, turned
from minortables.texts import table_text
from tests.samples import GOOD_SQUARES, NO_PLACES, NO_TABLES, SQUARES, TABLES

SQUARE = ((1, 2), (3, 4))
OBLONG = ((1, 2, 3), (4, 5, 6))

# Each takes a table, the other arguments being in order.
OF_A_TABLE = {
    "turned": turned,
    "flipped": flipped,
    "part": lambda thing: part(thing, (0,), (0,)),
    "times, the one": lambda thing: times(thing, SQUARE),
    "times, the other": lambda thing: times(SQUARE, thing),
    "times, both": lambda thing: times(thing, thing),
    "plus, the one": lambda thing: plus(thing, SQUARE),
    "plus, the other": lambda thing: plus(SQUARE, thing),
    "plus, both": lambda thing: plus(thing, thing),
    "all_minors": all_minors,
    "whole_minor": whole_minor,
    "minor": lambda thing: minor(thing, (0,), (0,)),
    "rank": rank,
    "pairs": lambda thing: pairs(thing, 1),
    "by_row": lambda thing: by_row(thing, 0),
    "turned_back": turned_back,
    "unsigned_back": unsigned_back,
    "first_bad": first_bad,
    "is_good": is_good,
    "is_very_good": is_very_good,
    "how_good": how_good,
    "solid_minors": solid_minors,
    "first_minors": first_minors,
    "is_very_good_by_few": is_very_good_by_few,
    "corner_room": corner_room,
    "as_fractions": as_fractions,
    "can_be_taken_apart": can_be_taken_apart,
    "led": lambda thing: led(thing, [1, 2]),
    "row_with_more": lambda thing: row_with_more(thing, 1),
    "table_text": table_text,
    "sums": sums,
    "slant_sum": slant_sum,
    "signs_in": signs_in,
    "is_even": is_even,
    "unlike_places, the one": lambda thing: unlike_places(thing, SQUARE),
    "unlike_places, the other": lambda thing: unlike_places(SQUARE, thing),
    "unlike_places, both": lambda thing: unlike_places(thing, thing),
    "power": lambda thing: power(thing, 2),
    "power, 0 times": lambda thing: power(thing, 0),
    "go_together, the one": lambda thing: go_together(thing, SQUARE),
    "go_together, the other": lambda thing: go_together(SQUARE, thing),
    "go_together, both": lambda thing: go_together(thing, thing),
    "set_below, the one": lambda thing: set_below(thing, SQUARE),
    "set_below, the other": lambda thing: set_below(SQUARE, thing),
    "set_below, both": lambda thing: set_below(thing, thing),
    "set_beside, the one": lambda thing: set_beside(thing, SQUARE),
    "set_beside, the other": lambda thing: set_beside(SQUARE, thing),
    "set_beside, both": lambda thing: set_beside(thing, thing),
    "set_aslant, the one": lambda thing: set_aslant(thing, SQUARE),
    "set_aslant, the other": lambda thing: set_aslant(SQUARE, thing),
    "set_aslant, both": lambda thing: set_aslant(thing, thing),
    "rows_exchanged": lambda thing: rows_exchanged(thing, 0, 0),
    "row_added": lambda thing: row_added(thing, 0, 1, 2),
}

# Each takes a table, but not each: of fractions it is to be, or made by steps.
OF_SOME_TABLES = {
    "as_whole": as_whole,
    "product_of, the one": lambda thing: product_of(thing, (((1, 2),),)),
    "product_of, the other": lambda thing: product_of((((1, 2),),), thing),
    "product_of, both": lambda thing: product_of(thing, thing),
    "taken_apart": taken_apart,
    "put": lambda thing: Case().put("a", thing),
}

OF_ANY_TABLE = OF_A_TABLE | OF_SOME_TABLES

# Each takes a table, while another argument is wrong.
OF_A_TABLE_AMID_WRONGS = {
    "part, rows": lambda thing: part(thing, (), (0,)),
    "part, columns": lambda thing: part(thing, (0,), None),
    "times, the one": lambda thing: times(thing, ((1,),) * 3),
    "times, the other": lambda thing: times(((1,) * 3,), thing),
    "plus, the one": lambda thing: plus(thing, ((1,) * 4,) * 4),
    "plus, the other": lambda thing: plus(((1,) * 4,) * 4, thing),
    "minor, rows": lambda thing: minor(thing, (-1,), (0,)),
    "minor, columns": lambda thing: minor(thing, (0,), (9,)),
    "minor, not as many": lambda thing: minor(thing, (0, 1), (0,)),
    "pairs, size": lambda thing: pairs(thing, 0),
    "by_row, row": lambda thing: by_row(thing, -1),
    "led, none": lambda thing: led(thing, []),
    "led, too many": lambda thing: led(thing, [1, 2, 3, 4, 5]),
    "unlike_places, the one": lambda thing: unlike_places(thing, ((1,) * 4,) * 4),
    "unlike_places, the other": lambda thing: unlike_places(((1,) * 4,) * 4, thing),
    "power, below 0": lambda thing: power(thing, -1),
    "go_together, the one": lambda thing: go_together(thing, OBLONG),
    "go_together, the other": lambda thing: go_together(OBLONG, thing),
    "set_below, the one": lambda thing: set_below(thing, ((1,) * 4,) * 4),
    "set_below, the other": lambda thing: set_below(((1,) * 4,) * 4, thing),
    "set_beside, the one": lambda thing: set_beside(thing, ((1,) * 4,) * 4),
    "set_beside, the other": lambda thing: set_beside(((1,) * 4,) * 4, thing),
    "set_aslant, the one": lambda thing: set_aslant(thing, ((1,) * 4,) * 4),
    "set_aslant, the other": lambda thing: set_aslant(((1,) * 4,) * 4, thing),
    "rows_exchanged, row": lambda thing: rows_exchanged(thing, 0, 4),
    "row_added, row": lambda thing: row_added(thing, None, 0, 1),
    "row_added, the same": lambda thing: row_added(thing, 0, 0, 1),
    "put, name": lambda thing: Case().put("A", thing),
}


class Refusals(unittest.TestCase):
    def test_what_is_no_table_is_refused_with_no_table(self):
        for name, told in OF_ANY_TABLE.items():
            for thing in NO_TABLES:
                with self.subTest(name, thing=thing), self.assertRaises(NoTable):
                    told(thing)

    def test_no_table_comes_first(self):
        for name, told in OF_A_TABLE_AMID_WRONGS.items():
            for thing in NO_TABLES:
                with self.subTest(name, thing=thing), self.assertRaises(NoTable):
                    told(thing)

    def test_a_table_of_any_size_of_numbers_is_taken(self):
        far = ((10 ** 50, -10 ** 50), (100, -100))
        for name, told in OF_A_TABLE.items():
            with self.subTest(name):
                told(far)

    def test_no_place_comes_ahead_of_no_fit(self):
        for thing in NO_PLACES:
            if isinstance(thing, tuple) and len(thing) == 2:
                continue
            with self.subTest(thing=thing):
                with self.assertRaises(NoPlace):
                    minor(OBLONG, thing, (0, 1))
                with self.assertRaises(NoPlace):
                    minor(OBLONG, (0, 1), thing)

    def test_by_row_has_no_fit_ahead_of_no_place(self):
        for row in [-1, 2, 3, True, None, "0", (0,), [0]]:
            with self.subTest(row=row), self.assertRaises(NoFit):
                by_row(OBLONG, row)

    def test_no_table_comes_ahead_of_no_fit_and_no_steps(self):
        # Not square, and with a number below 0, were it a table at all.
        for thing in [((1, -2, True),), [[1, -2, 3], [4, 5, 6]], ((-1, 2), (3, 4), (5,)), ((-1,) * 5,) * 2]:
            for told in (is_very_good_by_few, taken_apart, can_be_taken_apart):
                with self.subTest(thing=thing, told=told), self.assertRaises(NoTable):
                    told(thing)

    def test_no_fit_comes_ahead_of_no_steps(self):
        for thing in [((-1, 2),), ((1, 2, 3), (4, 5, 6)), ((0,), (0,))]:
            with self.subTest(thing=thing), self.assertRaises(NoFit):
                taken_apart(thing)

    def test_taken_apart_takes_numbers_of_any_size(self):
        taken_apart(((10 ** 50, 1), (1, 100)))
        with self.assertRaises(NoSteps):
            taken_apart(((10 ** 50, -10 ** 50), (100, -100)))

    def test_what_is_handed_in_is_not_changed(self):
        lists = [[[1, 2], [3, 4]], [(1, 2), (3, 4)], ([1, 2], [3, 4]), ((1, 2), [3, 4])]
        for name, told in OF_ANY_TABLE.items():
            for thing in lists:
                with self.subTest(name, thing=thing):
                    kept = deepcopy(thing)
                    with self.assertRaises(NoTable):
                        told(thing)
                    self.assertEqual(thing, kept)
        for thing in lists:
            kept = deepcopy(thing)
            is_table(thing)
            self.assertEqual(thing, kept)

    def test_steps_handed_in_are_not_changed(self):
        steps = [("down", 0, (1, 2)), ("scale", 1, (3, 1)), ("up", 1, (4, 1))]
        for told in (lambda: made_by(3, steps), lambda: turned_steps(steps), lambda: flipped_steps(3, steps),
                     lambda: ways(3, steps, 0, 1), lambda: share_of_ways(3, steps, 0, 1),
                     lambda: sets_of_ways(3, steps, (0, 1), (0, 1)), lambda: share_of_sets(3, steps, (0, 1), (0, 1)),
                     lambda: all_sets(3, steps, 2)):
            told()
            self.assertEqual(steps, [("down", 0, (1, 2)), ("scale", 1, (3, 1)), ("up", 1, (4, 1))])

    def test_numbers_handed_in_are_not_changed(self):
        numbers = [3, 0, -1]
        weights = [2, 1, 5]
        for told in (powers, lesser, scaled, of_factors, least_changes, most_changes,
                     lambda some: led(OBLONG, some), lambda some: rolled(some, 2),
                     lambda some: heaped(some, weights, 3)):
            told(numbers)
            self.assertEqual(numbers, [3, 0, -1])
            self.assertEqual(weights, [2, 1, 5])

    def test_places_handed_in_are_not_changed(self):
        for told in (part, minor):
            places = [1, 0]
            for rows, columns in [(places, (0,)), ((0,), places)]:
                with self.assertRaises(NoPlace):
                    told(SQUARE, rows, columns)
            self.assertEqual(places, [1, 0])


class ToldLists(unittest.TestCase):
    def check_anew(self, tell):
        kept = deepcopy(tell())
        got = tell()
        self.assertIsInstance(got, list)
        got.append("more")
        got[0] = None
        self.assertEqual(tell(), kept)
        got.clear()
        self.assertEqual(tell(), kept)

    def test_all_minors_are_told_anew(self):
        for table in TABLES:
            with self.subTest(table=table):
                self.check_anew(lambda: all_minors(table))

    def test_by_row_is_told_anew(self):
        for table in SQUARES:
            with self.subTest(table=table):
                self.check_anew(lambda: by_row(table, 0))

    def test_solid_and_first_minors_are_told_anew(self):
        for table in TABLES:
            with self.subTest(table=table):
                self.check_anew(lambda: solid_minors(table))
                self.check_anew(lambda: first_minors(table))

    def test_steps_are_told_anew(self):
        for table in GOOD_SQUARES:
            steps = taken_apart(table)
            if steps:
                with self.subTest(table=table):
                    self.check_anew(lambda: taken_apart(table))
                    self.check_anew(lambda: turned_steps(steps))
                    self.check_anew(lambda: flipped_steps(len(table), steps))
                    self.assertEqual(steps, taken_apart(table))

    def test_ways_and_sets_are_told_anew(self):
        steps = [("up", 0, (1, 2)), ("down", 0, (3, 1)), ("up", 1, (1, 1)), ("scale", 2, (2, 1))]
        for start in range(3):
            self.check_anew(lambda: ways(3, steps, start, start))
            self.check_anew(lambda: ways(3, [], start, start))
            self.check_anew(lambda: sets_of_ways(3, steps, (start,), (start,)))
            self.check_anew(lambda: all_sets(3, steps, start + 1))
        self.check_anew(lambda: sets_of_ways(3, steps, (0, 1, 2), (0, 1, 2)))
        self.check_anew(lambda: sets_of_ways(3, [], (0, 2), (0, 2)))

    def test_rows_and_factors_are_told_anew(self):
        for many in range(1, 5):
            self.check_anew(lambda: all_rows(many, 1))
            self.check_anew(lambda: of_factors([1, 2, 3, 4][:many]))
        self.check_anew(lambda: of_factors([]))

    def test_names_are_told_anew(self):
        case = Case()
        case.names().append("more")
        self.assertEqual(case.names(), [])
        case.put("a", SQUARE)
        case.put("b", OBLONG)
        self.check_anew(case.names)
        self.assertEqual(case.table_of("a"), SQUARE)
        self.assertEqual(case.counts(), (2, 0))

    def test_unlike_places_are_told_anew(self):
        self.check_anew(lambda: unlike_places(SQUARE, ((0, 0), (0, 0))))
        unlike_places(SQUARE, SQUARE).append("more")
        self.assertEqual(unlike_places(SQUARE, SQUARE), [])

    def test_lists_of_nothing_are_told_anew(self):
        steps = []
        for told in (lambda: taken_apart(((1,),)), lambda: turned_steps(steps), lambda: flipped_steps(2, steps)):
            told().append("more")
            self.assertEqual(told(), [])
            self.assertEqual(steps, [])
