"""Each name of the interface is there, and takes as many arguments as told."""

import unittest
from importlib import import_module
from inspect import signature

FUNCTIONS = {
    "tables": "is_table/1 turned/1 flipped/1 part/3 times/2 plus/2 plain/1",
    "minors": "all_minors/1 whole_minor/1 minor/3 rank/1 pairs/2 by_row/2 turned_back/1 unsigned_back/1",
    "good": "first_bad/1 how_good/1 solid_minors/1 first_minors/1 corner_room/1 how_many_of_bits/2 is_good/1"
            " is_very_good/1 is_very_good_by_few/1",
    "fractions": "is_fraction/1 sum_of/2 times_of/2 less_of/2 parted/2 all_sum/1 all_times/1 as_fractions/1 as_whole/1",
    "steps": "is_step/2 can_be_taken_apart/1 made_by/2 product_of/2 taken_apart/1 turned_steps/1 flipped_steps/2",
    "nets": "ways/4 share_of_ways/4 sets_of_ways/4 share_of_sets/4 all_sets/3",
    "kinds": "powers/1 by_sums/1 of_factors/1 rolled/2 lesser/1 heaped/3 scaled/1",
    "signs": "least_changes/1 most_changes/1 led/2 all_rows/2 row_with_more/2",
    "texts": "table_text/1 read_table/1",
    "measuring": "sums/1 slant_sum/1 signs_in/1 unlike_places/2 power/2 is_even/1 go_together/2",
    "joining": "set_below/2 set_beside/2 set_aslant/2 rows_exchanged/3 row_added/4",
    "cases": "case_text/1 read_case/1",
}
METHODS = "put/2 table_of/1 take/1 join/4 turn/1 flip/1 names/0 back/0 forth/0 counts/0 twin/0"


class Interface(unittest.TestCase):
    def check(self, owner, told):
        for word in told.split():
            name, many = word.split("/")
            with self.subTest(owner=owner, name=name):
                self.assertEqual(len(signature(getattr(owner, name)).parameters), int(many))

    def test_functions(self):
        for name, told in FUNCTIONS.items():
            self.check(import_module("minortables." + name), told)

    def test_case(self):
        cases = import_module("minortables.cases")
        self.assertEqual(len(signature(cases.Case).parameters), 0)
        self.check(cases.Case(), METHODS)
