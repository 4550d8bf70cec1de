import unittest
from copy import deepcopy
from fractions import Fraction
from itertools import product as choices

from minortables.errors import NoFit, NoStep, NoSteps, NoTable
from minortables.fractions import as_fractions, as_whole
from minortables.good import is_good
from minortables.minors import whole_minor
from minortables.steps import (can_be_taken_apart, flipped_steps, is_step, made_by, product_of, taken_apart,
                               turned_steps)
from minortables.tables import flipped, plain, times, turned
from tests.samples import (BADS, BELOW, FAR, FRACTIONS, GOOD_OTHERS, GOOD_SQUARES, GOODS, NO_FRACTIONS, OBLONGS,
                           SQUARES, TABLES, none_below, product, reckoned)
from tests.test_fractions import NO_FRACTION_TABLES

WORDS = ["up", "down", "scale"]
NO_MANY = [0, 5, 6, -1, -4, FAR, -FAR, True, False, None, "", "2", (2,), [2], (), []]

# None of these is a step of tables of any size.
NO_STEP = [
    ("up", 0), ("up",), (), ("up", 0, (1, 1), 0), ("up", 0, 1, 1), ("up", 0, (1, 1), (1, 1)),
    ["up", 0, (1, 1)], [], ["up"], (["up"], 0, (1, 1)), ("up", [0], (1, 1)), ("up", 0, [1, 1]), ("up", (0,), (1, 1)),
    ("", 0, (1, 1)), ("UP", 0, (1, 1)), ("Down", 0, (1, 1)), ("scales", 0, (1, 1)), ("up ", 0, (1, 1)),
    ("u", 0, (1, 1)), ("left", 0, (1, 1)), (None, 0, (1, 1)), (True, 0, (1, 1)), (0, 0, (1, 1)), (1, 0, (1, 1)),
    ((), 0, (1, 1)), (("up",), 0, (1, 1)), (("up", "down"), 0, (1, 1)), ([], 0, (1, 1)), ([[]], 0, (1, 1)),
    ("up", None, (1, 1)), ("up", "0", (1, 1)), ("up", "", (1, 1)), ("up", False, (1, 1)), ("down", False, (1, 1)),
    ("scale", False, (1, 1)), ("scale", True, (1, 1)), ("up", True, (1, 1)), ("down", True, (1, 1)),
    ("up", -1, (1, 1)), ("down", -1, (1, 1)), ("scale", -1, (1, 1)), ("scale", -FAR, (1, 1)),
    ("up", FAR, (1, 1)), ("down", FAR, (1, 1)), ("scale", FAR, (1, 1)),
    ("scale", 0, (0, 1)),
    (0, "up", (1, 1)), ((1, 1), 0, "up"), ((("up", 0, (1, 1)),),), (("up", 0, (1, 1)),), [("up", 0, (1, 1))],
    None, True, False, 0, 1, 2, FAR, "", "up", "up0", "abc", (((((),),),),), [[[[[]]]]],
] + [(word, 0, share) for word in WORDS for share in NO_FRACTIONS + BELOW]

SOME_STEPS = {
    1: [("scale", 0, (3, 1)), ("scale", 0, (2, 5)), ("scale", 0, (7, 1))],
    2: [("up", 0, (2, 1)), ("scale", 1, (1, 3)), ("down", 0, (5, 2)), ("up", 0, (0, 1)), ("scale", 0, (FAR, 7))],
    3: [("down", 1, (1, 2)), ("up", 0, (2, 1)), ("scale", 2, (3, 1)), ("up", 1, (3, 4)), ("down", 0, (5, 1))],
    4: [("up", 2, (1, 2)), ("down", 0, (2, 1)), ("scale", 1, (3, 5)), ("up", 0, (4, 1)), ("down", 2, (7, 1)),
        ("up", 1, (1, 9)), ("down", 1, (1, 1)), ("scale", 3, (1, 2))],
}


def step_as_table(many, step):
    """The table of a step, of Python's own fractions."""
    word, place, share = step
    lines = [[Fraction(int(row == column)) for column in range(many)] for row in range(many)]
    behind = {"up": (0, 1), "down": (1, 0), "scale": (0, 0)}[word]
    lines[place + behind[0]][place + behind[1]] = Fraction(*share)
    return tuple(tuple(line) for line in lines)


def put_together(many, steps):
    made = tuple(tuple(Fraction(number) for number in row) for row in plain(many))
    for step in steps:
        made = product(made, step_as_table(many, step))
    return made


def told_as(table):
    return tuple(tuple((number.numerator, number.denominator) for number in row) for row in table)


def runs():
    """Lists of steps, with how many rows each is of: none, one, several."""
    for many, steps in SOME_STEPS.items():
        for start in range(len(steps)):
            for end in range(start, len(steps) + 1):
                yield many, steps[start:end]
        yield many, steps + steps


class IsStep(unittest.TestCase):
    def test_places_of_each_word(self):
        for many in range(1, 5):
            for word in WORDS:
                places = many if word == "scale" else many - 1
                for place in range(-3, 8):
                    with self.subTest(many=many, word=word, place=place):
                        self.assertIs(is_step(many, (word, place, (2, 3))), 0 <= place < places)

    def test_the_first_and_last_places(self):
        for many in range(2, 5):
            for word in ["up", "down"]:
                self.assertIs(is_step(many, (word, 0, (1, 1))), True)
                self.assertIs(is_step(many, (word, many - 2, (1, 1))), True)
                self.assertIs(is_step(many, (word, many - 1, (1, 1))), False)
        for many in range(1, 5):
            self.assertIs(is_step(many, ("scale", many - 1, (1, 1))), True)
            self.assertIs(is_step(many, ("scale", many, (1, 1))), False)
        self.assertIs(is_step(1, ("up", 0, (1, 1))), False)
        self.assertIs(is_step(1, ("down", 0, (1, 1))), False)

    def test_shares(self):
        for share in FRACTIONS:
            with self.subTest(share=share):
                self.assertIs(is_step(2, ("up", 0, share)), True)
                self.assertIs(is_step(2, ("down", 0, share)), True)
                self.assertIs(is_step(2, ("scale", 0, share)), share != (0, 1))
                self.assertIs(is_step(2, ("scale", 1, share)), share != (0, 1))

    def test_what_is_no_share(self):
        for word in WORDS:
            for share in NO_FRACTIONS + BELOW:
                with self.subTest(word=word, share=share):
                    self.assertIs(is_step(4, (word, 0, share)), False)

    def test_any_other_thing(self):
        for many in range(1, 5):
            for thing in NO_STEP:
                with self.subTest(many=many, thing=thing):
                    self.assertIs(is_step(many, thing), False)

    def test_truths_for_many(self):
        for many in [True, False]:
            for word in WORDS:
                self.assertIs(is_step(many, (word, 0, (1, 1))), False)

    def test_what_is_handed_in_is_not_changed(self):
        thing = ["up", 0, [1, 1]]
        is_step(3, thing)
        self.assertEqual(thing, ["up", 0, [1, 1]])


class MadeBy(unittest.TestCase):
    def test_of_no_steps(self):
        for many in range(1, 5):
            self.assertEqual(made_by(many, []), as_fractions(plain(many)))

    def test_of_one(self):
        self.assertEqual(made_by(1, [("scale", 0, (2, 3))]), (((2, 3),),))
        self.assertEqual(made_by(2, [("up", 0, (2, 3))]), (((1, 1), (2, 3)), ((0, 1), (1, 1))))
        self.assertEqual(made_by(2, [("down", 0, (2, 3))]), (((1, 1), (0, 1)), ((2, 3), (1, 1))))
        self.assertEqual(made_by(2, [("scale", 1, (2, 3))]), (((1, 1), (0, 1)), ((0, 1), (2, 3))))
        self.assertEqual(as_whole(made_by(3, [("up", 1, (5, 1))])), ((1, 0, 0), (0, 1, 5), (0, 0, 1)))
        self.assertEqual(as_whole(made_by(3, [("down", 1, (5, 1))])), ((1, 0, 0), (0, 1, 0), (0, 5, 1)))
        self.assertEqual(as_whole(made_by(3, [("scale", 1, (5, 1))])), ((1, 0, 0), (0, 5, 0), (0, 0, 1)))
        self.assertEqual(made_by(3, [("up", 0, (0, 1))]), as_fractions(plain(3)))

    def test_the_first_ones_ahead(self):
        self.assertEqual(as_whole(made_by(2, [("up", 0, (2, 1)), ("down", 0, (3, 1))])), ((7, 2), (3, 1)))
        self.assertEqual(as_whole(made_by(2, [("down", 0, (3, 1)), ("up", 0, (2, 1))])), ((1, 2), (3, 7)))

    def test_several(self):
        for many, steps in runs():
            with self.subTest(many=many, steps=steps):
                self.assertEqual(made_by(many, steps), told_as(put_together(many, steps)))

    def test_many_that_is_not_from_1_to_4(self):
        for many in NO_MANY:
            for steps in [[], [("scale", 0, (1, 1))], [("up", 0, (1, 1))]]:
                with self.subTest(many=many, steps=steps):
                    with self.assertRaises(NoStep):
                        made_by(many, steps)
                    with self.assertRaises(NoStep):
                        flipped_steps(many, steps)

    def test_what_is_no_step_anywhere_in_the_list(self):
        for many, good in SOME_STEPS.items():
            for thing in NO_STEP:
                for steps in [[thing], [thing] + good, good + [thing], good[:1] + [thing] + good[1:]]:
                    with self.subTest(many=many, steps=steps):
                        kept = deepcopy(steps)
                        with self.assertRaises(NoStep):
                            made_by(many, steps)
                        with self.assertRaises(NoStep):
                            flipped_steps(many, steps)
                        self.assertEqual(steps, kept)

    def test_steps_of_more_rows(self):
        for many in range(1, 4):
            for step in [("up", many - 1, (1, 1)), ("down", many - 1, (1, 1)), ("scale", many, (1, 1))]:
                made_by(many + 1, [step])
                flipped_steps(many + 1, [step])
                with self.assertRaises(NoStep):
                    made_by(many, [step])
                with self.assertRaises(NoStep):
                    flipped_steps(many, [step])

    def test_what_is_no_list(self):
        for steps in [None, True, 0, "", "up", (), ("up", 0, (1, 1))]:
            with self.subTest(steps=steps):
                with self.assertRaises(NoStep):
                    made_by(2, steps)
                with self.assertRaises(NoStep):
                    flipped_steps(2, steps)

    def test_what_is_made_is_good(self):
        for many, steps in runs():
            whole = [step[:2] + ((step[2][0] * 3 + 1, 1),) for step in steps]
            table = as_whole(made_by(many, whole))
            with self.subTest(many=many, steps=whole):
                self.assertIs(is_good(table), True)
                self.assertGreater(whole_minor(table), 0)


class ProductOf(unittest.TestCase):
    def test_told_ones(self):
        one = (((1, 2), (1, 3)),)
        other = (((1, 1),), ((-3, 2),))
        self.assertEqual(product_of(one, other), (((0, 1),),))
        self.assertEqual(product_of(other, one), (((1, 2), (1, 3)), ((-3, 4), (-1, 2))))

    def test_as_times(self):
        for one in TABLES:
            for other in TABLES:
                if len(one[0]) == len(other):
                    told = product_of(as_fractions(one), as_fractions(other))
                    self.assertEqual(told, as_fractions(times(one, other)))

    def test_of_what_steps_make(self):
        for many, steps in runs():
            for cut in range(len(steps) + 1):
                told = product_of(made_by(many, steps[:cut]), made_by(many, steps[cut:]))
                self.assertEqual(told, made_by(many, steps))

    def test_what_is_no_table_of_fractions(self):
        fine = as_fractions(plain(2))
        for thing in NO_FRACTION_TABLES:
            with self.subTest(thing=thing):
                with self.assertRaises(NoTable):
                    product_of(thing, fine)
                with self.assertRaises(NoTable):
                    product_of(fine, thing)

    def test_those_that_do_not_fit(self):
        with self.assertRaises(NoFit):
            product_of(as_fractions(plain(2)), as_fractions(plain(3)))


class TurnedAndFlippedSteps(unittest.TestCase):
    def test_told_ones(self):
        steps = [("up", 0, (1, 2)), ("scale", 2, (3, 1)), ("down", 1, (5, 1))]
        self.assertEqual(made_by(3, turned_steps(steps)), told_as(tuple(zip(*put_together(3, steps)))))
        self.assertEqual(turned_steps([("up", 1, (1, 2))]), [("down", 1, (1, 2))])
        self.assertEqual(flipped_steps(4, [("up", 0, (1, 2))]), [("down", 2, (1, 2))])
        self.assertEqual(flipped_steps(4, [("scale", 0, (1, 2))]), [("scale", 3, (1, 2))])

    def test_of_none(self):
        self.assertEqual(turned_steps([]), [])
        for many in range(1, 5):
            self.assertEqual(flipped_steps(many, []), [])

    def check(self, many, told, asked, count):
        self.assertIsInstance(told, list)
        self.assertEqual(len(told), count)
        for step in told:
            self.assertIs(is_step(many, step), True, step)
        self.assertEqual(made_by(many, told), told_as(asked))

    def test_they_make_the_turned_and_the_flipped_table(self):
        for many, steps in runs():
            kept = list(steps)
            made = put_together(many, steps)
            with self.subTest(many=many, steps=steps):
                self.check(many, turned_steps(steps), tuple(zip(*made)), len(steps))
                self.check(many, flipped_steps(many, steps), tuple(row[::-1] for row in made[::-1]), len(steps))
                self.assertEqual(steps, kept)

    def test_each_single_step(self):
        for many in range(1, 5):
            for word in WORDS:
                for place in range(many if word == "scale" else many - 1):
                    made = step_as_table(many, (word, place, (3, 2)))
                    steps = [(word, place, (3, 2))]
                    self.check(many, turned_steps(steps), tuple(zip(*made)), 1)
                    self.check(many, flipped_steps(many, steps), tuple(row[::-1] for row in made[::-1]), 1)

    def test_of_whole_tables(self):
        for table in GOOD_SQUARES:
            steps = taken_apart(table)
            self.assertEqual(as_whole(made_by(len(table), turned_steps(steps))), turned(table))
            self.assertEqual(as_whole(made_by(len(table), flipped_steps(len(table), steps))), flipped(table))


class TakenApart(unittest.TestCase):
    def check(self, table):
        many = len(table)
        steps = taken_apart(table)
        self.assertIsInstance(steps, list)
        for step in steps:
            self.assertIs(is_step(many, step), True, (table, step))
        words = [step[0] for step in steps]
        self.assertEqual(words, sorted(words, key=["down", "scale", "up"].index), table)
        self.assertLessEqual(len([word for word in words if word != "scale"]), many * (many - 1), table)
        self.assertEqual(put_together(many, steps), table)
        self.assertEqual(made_by(many, steps), as_fractions(table))
        self.assertIs(can_be_taken_apart(table), True)

    def check_refused(self, table):
        with self.assertRaises(NoSteps):
            taken_apart(table)
        self.assertIs(can_be_taken_apart(table), False, table)

    def check_either(self, table):
        if none_below(table) and reckoned(table) != 0:
            self.check(table)
        else:
            self.check_refused(table)

    def test_good_ones_that_come_to_something(self):
        for table in GOOD_SQUARES:
            with self.subTest(table=table):
                self.check(table)

    def test_of_plain_and_of_one_number(self):
        for many in range(1, 5):
            self.check(plain(many))
        for number in [1, 2, 99, 100, FAR]:
            self.check(((number,),))

    def test_good_ones_that_come_to_0(self):
        for table in GOOD_OTHERS:
            if len(table) == len(table[0]):
                with self.subTest(table=table):
                    self.check_refused(table)

    def test_bad_ones(self):
        for table in BADS:
            if len(table) == len(table[0]):
                with self.subTest(table=table):
                    self.check_refused(table)

    def test_either_of_all_samples(self):
        for table in SQUARES:
            with self.subTest(table=table):
                self.check_either(table)

    def test_all_small_ones(self):
        for number in range(-3, 4):
            self.check_either(((number,),))
        for line in choices(range(-1, 4), repeat=4):
            self.check_either((line[:2], line[2:]))
        for line in choices((0, 1), repeat=9):
            self.check_either((line[:3], line[3:6], line[6:]))

    def test_products_of_good_ones(self):
        for one in GOOD_SQUARES:
            for other in GOOD_SQUARES:
                if len(one) == len(other):
                    self.check(times(one, other))

    def test_what_steps_make(self):
        for many, steps in runs():
            whole = [step[:2] + ((step[2][0] % 5 + 1, 1),) for step in steps]
            self.check(as_whole(made_by(many, whole)))

    def test_all_zeros_that_can_be(self):
        # Of four rows, each choice of steps beside the slant with share 0 or not.
        places = [("down", 2), ("down", 1), ("down", 0), ("down", 2), ("down", 1), ("down", 2)]
        for shares in choices((0, 2), repeat=6):
            lower = [place + ((share, 1),) for place, share in zip(places, shares)]
            upper = turned_steps([place + ((2 - share, 1),) for place, share in zip(places, shares)])
            self.check(as_whole(made_by(4, lower)))
            self.check(as_whole(made_by(4, upper)))
            self.check(as_whole(made_by(4, lower + upper)))
            self.check(as_whole(made_by(4, upper + lower)))

    def test_not_square(self):
        for table in OBLONGS + [table for table in GOODS + BADS if len(table) != len(table[0])]:
            with self.subTest(table=table):
                with self.assertRaises(NoFit):
                    taken_apart(table)
                with self.assertRaises(NoFit):
                    can_be_taken_apart(table)
