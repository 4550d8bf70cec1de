import unittest
from copy import deepcopy
from fractions import Fraction
from itertools import combinations, product as choices

from minortables.errors import NoFit, NoPlace, NoStep
from minortables.fractions import as_fractions, is_fraction
from minortables.minors import all_minors, minor
from minortables.nets import all_sets, sets_of_ways, share_of_sets, share_of_ways, ways
from minortables.steps import made_by, taken_apart
from tests.samples import GOOD_SQUARES, NO_PLACES, NO_SINGLE_PLACE, cut, reckoned
from tests.test_steps import NO_MANY, NO_STEP, SOME_STEPS, put_together, runs, step_as_table

# Of these one goes up and down again, stays at 0 shares, and meets where two go to one level.
BRAIDS = {
    1: [("scale", 0, (2, 3))] * 3,
    2: [("up", 0, (1, 1)), ("down", 0, (2, 1)), ("up", 0, (3, 1)), ("down", 0, (1, 5))],
    3: [("up", 0, (1, 1)), ("up", 1, (1, 2)), ("down", 0, (2, 1)), ("up", 0, (0, 1)), ("down", 1, (5, 1)),
        ("scale", 1, (7, 2)), ("up", 1, (3, 1))],
    4: [("down", 2, (1, 2)), ("down", 1, (1, 3)), ("down", 0, (1, 5)), ("scale", 2, (7, 1)), ("up", 0, (2, 1)),
        ("up", 1, (3, 1)), ("up", 2, (5, 1)), ("down", 1, (0, 1))],
}


def braids():
    for many, steps in BRAIDS.items():
        for end in range(len(steps) + 1):
            yield many, steps[:end]


def some_steps():
    # Long lists have too many ways for a plain look through all of them.
    return [(many, steps) for many, steps in list(runs()) + list(braids()) if len(steps) <= 7]


def long_steps():
    return [(many, steps * 3) for many, steps in SOME_STEPS.items()] + list(braids())


def all_ways(many, steps):
    """All ways between any two levels, by a look through all rows of levels."""
    tables = [step_as_table(many, step) for step in steps]
    found = {}
    for levels in choices(range(many), repeat=len(steps) + 1):
        share = Fraction(1)
        for table, level, other in zip(tables, levels, levels[1:]):
            share *= table[level][other]
        if share != 0:
            found[levels] = share
    return found


def as_told(share):
    return (share.numerator, share.denominator)


def never_meet(lines):
    return all(len(set(at_once)) == len(at_once) for at_once in zip(*lines))


def all_together(found, some, others):
    """All tuples of ways between the levels that never meet, with what their shares come to."""
    between = [[levels for levels in found if (levels[0], levels[-1]) == ends] for ends in zip(some, others)]
    told = []
    for lines in choices(*between):
        if never_meet(lines):
            share = Fraction(1)
            for levels in lines:
                share *= found[levels]
            told.append((lines, as_told(share)))
    return told


def pairs_of_levels(many):
    for size in range(1, many + 1):
        yield from choices(combinations(range(many), size), repeat=2)


class Ways(unittest.TestCase):
    def test_told_ones(self):
        steps = [("up", 0, (2, 1)), ("scale", 1, (1, 3)), ("down", 0, (5, 1)), ("up", 0, (1, 2))]
        self.assertEqual(sorted(ways(2, steps, 0, 0)), [((0, 0, 0, 0, 0), (1, 1)), ((0, 1, 1, 0, 0), (10, 3))])
        self.assertEqual(sorted(ways(2, steps, 0, 1)), [
            ((0, 0, 0, 0, 1), (1, 2)), ((0, 1, 1, 0, 1), (5, 3)), ((0, 1, 1, 1, 1), (2, 3))])
        self.assertEqual(sorted(ways(2, steps, 1, 1)), [((1, 1, 1, 0, 1), (5, 6)), ((1, 1, 1, 1, 1), (1, 3))])
        self.assertEqual(share_of_ways(2, steps, 0, 0), (13, 3))
        self.assertEqual(share_of_ways(2, steps, 0, 1), (17, 6))

    def test_all_ways_each_once(self):
        for many, steps in some_steps():
            found = all_ways(many, steps)
            for start, end in choices(range(many), repeat=2):
                asked = [(levels, as_told(share)) for levels, share in found.items()
                         if levels[0] == start and levels[-1] == end]
                with self.subTest(many=many, steps=steps, start=start, end=end):
                    told = ways(many, steps, start, end)
                    self.assertIsInstance(told, list)
                    self.assertEqual(sorted(told), sorted(asked))

    def test_their_form(self):
        for many, steps in some_steps():
            for start, end in choices(range(many), repeat=2):
                for way in ways(many, steps, start, end):
                    self.assertIsInstance(way, tuple)
                    levels, share = way
                    self.assertIsInstance(levels, tuple)
                    self.assertEqual(len(levels), len(steps) + 1)
                    self.assertEqual((levels[0], levels[-1]), (start, end))
                    self.assertIs(is_fraction(share), True)

    def test_of_no_steps(self):
        for many in range(1, 5):
            for start, end in choices(range(many), repeat=2):
                self.assertEqual(ways(many, [], start, end), [((start,), (1, 1))] if start == end else [])
                self.assertEqual(share_of_ways(many, [], start, end), (int(start == end), 1))

    def test_of_steps_with_share_0(self):
        for word in ("up", "down"):
            for start, end in choices(range(2), repeat=2):
                told = ways(2, [(word, 0, (0, 1))] * 3, start, end)
                self.assertEqual(told, [((start,) * 4, (1, 1))] if start == end else [])

    def test_of_scales(self):
        steps = [("scale", 0, (2, 3)), ("scale", 1, (5, 1)), ("scale", 0, (3, 7))]
        self.assertEqual(ways(2, steps, 0, 0), [((0, 0, 0, 0), (2, 7))])
        self.assertEqual(ways(2, steps, 1, 1), [((1, 1, 1, 1), (5, 1))])
        self.assertEqual(ways(2, steps, 0, 1), [])
        self.assertEqual(ways(2, steps, 1, 0), [])

    def test_up_goes_up_and_down_goes_down(self):
        self.assertEqual(ways(3, [("up", 1, (2, 1))], 1, 2), [((1, 2), (2, 1))])
        self.assertEqual(ways(3, [("up", 1, (2, 1))], 2, 1), [])
        self.assertEqual(ways(3, [("down", 1, (2, 1))], 2, 1), [((2, 1), (2, 1))])
        self.assertEqual(ways(3, [("down", 1, (2, 1))], 1, 2), [])


class ShareOfWays(unittest.TestCase):
    def test_the_number_of_the_steps_table(self):
        for many, steps in some_steps() + long_steps():
            made = put_together(many, steps)
            told = made_by(many, steps)
            for start, end in choices(range(many), repeat=2):
                with self.subTest(many=many, steps=steps, start=start, end=end):
                    share = share_of_ways(many, steps, start, end)
                    self.assertEqual(share, as_told(made[start][end]))
                    self.assertEqual(share, told[start][end])

    def test_all_shares_together(self):
        for many, steps in some_steps():
            for start, end in choices(range(many), repeat=2):
                shares = [Fraction(*share) for levels, share in ways(many, steps, start, end)]
                self.assertEqual(share_of_ways(many, steps, start, end), as_told(sum(shares, Fraction(0))))

    def test_where_there_is_no_way(self):
        self.assertEqual(share_of_ways(3, [("up", 0, (1, 1)), ("up", 0, (4, 1))], 0, 2), (0, 1))
        self.assertEqual(share_of_ways(3, [("up", 1, (1, 1)), ("up", 0, (4, 1))], 0, 2), (0, 1))
        self.assertEqual(share_of_ways(2, [("down", 0, (1, 1))], 0, 1), (0, 1))

    def test_of_tables_taken_apart(self):
        for table in GOOD_SQUARES:
            many = len(table)
            steps = taken_apart(table)
            for start, end in choices(range(many), repeat=2):
                self.assertEqual(share_of_ways(many, steps, start, end), (table[start][end], 1))

    def test_of_very_many_ways(self):
        steps = [("up", 0, (1, 1)), ("down", 0, (1, 1))] * 60
        self.assertEqual(share_of_ways(2, steps, 0, 0), made_by(2, steps)[0][0])
        self.assertEqual(share_of_sets(2, steps, (0, 1), (0, 1)), (1, 1))


class SetsOfWays(unittest.TestCase):
    def test_told_ones(self):
        steps = [("up", 0, (2, 1)), ("down", 0, (3, 1))]
        self.assertEqual(sets_of_ways(2, steps, (0, 1), (0, 1)), [(((0, 0, 0), (1, 1, 1)), (1, 1))])
        self.assertEqual(sorted(sets_of_ways(2, steps, (0,), (0,))), [
            (((0, 0, 0),), (1, 1)), (((0, 1, 0),), (6, 1))])
        steps = [("up", 1, (2, 1)), ("up", 0, (5, 3))]
        self.assertEqual(sets_of_ways(3, steps, (0, 1), (1, 2)), [(((0, 0, 1), (1, 2, 2)), (10, 3))])
        self.assertEqual(sets_of_ways(3, steps[::-1], (0, 1), (1, 2)), [])
        self.assertEqual(share_of_sets(3, steps[::-1], (0, 1), (1, 2)), (0, 1))

    def test_all_that_never_meet(self):
        for many, steps in some_steps():
            if len(steps) > 5 and many == 4:
                continue
            found = all_ways(many, steps)
            for some, others in pairs_of_levels(many):
                with self.subTest(many=many, steps=steps, some=some, others=others):
                    told = sets_of_ways(many, steps, some, others)
                    self.assertIsInstance(told, list)
                    self.assertEqual(sorted(told), sorted(all_together(found, some, others)))

    def test_their_form(self):
        for many, steps in some_steps():
            for some, others in pairs_of_levels(many):
                for found in sets_of_ways(many, steps, some, others):
                    self.assertIsInstance(found, tuple)
                    lines, share = found
                    self.assertIsInstance(lines, tuple)
                    self.assertEqual(tuple(levels[0] for levels in lines), some)
                    self.assertEqual(tuple(levels[-1] for levels in lines), others)
                    for levels in lines:
                        self.assertIsInstance(levels, tuple)
                        self.assertEqual(len(levels), len(steps) + 1)
                    self.assertTrue(never_meet(lines), lines)
                    self.assertIs(is_fraction(share), True)

    def test_of_single_levels_they_are_the_ways(self):
        for many, steps in some_steps():
            for start, end in choices(range(many), repeat=2):
                told = [(lines[0], share) for lines, share in sets_of_ways(many, steps, (start,), (end,))]
                self.assertEqual(sorted(told), sorted(ways(many, steps, start, end)))

    def test_of_no_steps(self):
        for many in range(1, 5):
            for some, others in pairs_of_levels(many):
                if len(some) == len(others):
                    lines = tuple((level,) for level in some)
                    told = sets_of_ways(many, [], some, others)
                    self.assertEqual(told, [(lines, (1, 1))] if some == others else [])
                    self.assertEqual(share_of_sets(many, [], some, others), (int(some == others), 1))


class ShareOfSets(unittest.TestCase):
    def test_the_minors_of_the_steps_table(self):
        for many, steps in some_steps() + long_steps():
            made = put_together(many, steps)
            for some, others in pairs_of_levels(many):
                with self.subTest(many=many, steps=steps, some=some, others=others):
                    asked = as_told(Fraction(reckoned(cut(made, some, others))))
                    self.assertEqual(share_of_sets(many, steps, some, others), asked)

    def test_all_shares_together(self):
        for many, steps in some_steps():
            for some, others in pairs_of_levels(many):
                shares = [Fraction(*share) for lines, share in sets_of_ways(many, steps, some, others)]
                self.assertEqual(share_of_sets(many, steps, some, others), as_told(sum(shares, Fraction(0))))

    def test_the_minors_of_tables_taken_apart(self):
        for table in GOOD_SQUARES:
            many = len(table)
            steps = taken_apart(table)
            for some, others in pairs_of_levels(many):
                asked = (minor(table, some, others), 1)
                self.assertEqual(share_of_sets(many, steps, some, others), asked)
            told = [found for size in range(1, many + 1) for found in all_sets(many, steps, size)]
            self.assertEqual(told, [(rows, columns, (worth, 1)) for rows, columns, worth in all_minors(table)])


class AllSets(unittest.TestCase):
    def test_of_each_size_in_the_order_of_all_minors(self):
        for many, steps in some_steps() + long_steps():
            made = put_together(many, steps)
            for size in range(1, many + 1):
                asked = [(some, others, as_told(Fraction(reckoned(cut(made, some, others)))))
                         for some in combinations(range(many), size) for others in combinations(range(many), size)]
                with self.subTest(many=many, steps=steps, size=size):
                    told = all_sets(many, steps, size)
                    self.assertIsInstance(told, list)
                    self.assertEqual(told, asked)

    def test_told_ones(self):
        self.assertEqual(all_sets(2, [("up", 0, (1, 2))], 1), [
            ((0,), (0,), (1, 1)), ((0,), (1,), (1, 2)), ((1,), (0,), (0, 1)), ((1,), (1,), (1, 1))])
        self.assertEqual(all_sets(2, [("up", 0, (1, 2))], 2), [((0, 1), (0, 1), (1, 1))])
        self.assertEqual(all_sets(1, [], 1), [((0,), (0,), (1, 1))])

    def test_of_a_size_that_none_has(self):
        for many, steps in SOME_STEPS.items():
            for size in [0, -1, many + 1, many + 3]:
                self.assertEqual(all_sets(many, steps, size), [])


class RefusalsOfNets(unittest.TestCase):
    def check(self, error, functions, handed):
        kept = deepcopy(handed)
        for told in functions:
            with self.subTest(told=told.__name__, handed=handed), self.assertRaises(error):
                told(*handed)
        self.assertEqual(handed, kept)

    def refused(self, error, many, steps, start, end):
        self.check(error, (ways, share_of_ways), (many, steps, start, end))

    def refused_sets(self, error, many, steps, some, others):
        self.check(error, (sets_of_ways, share_of_sets), (many, steps, some, others))

    def test_many_that_is_not_from_1_to_4(self):
        for many in NO_MANY:
            for steps in [[], [("scale", 0, (1, 1))]]:
                self.refused(NoStep, many, steps, 0, 0)
                self.refused_sets(NoStep, many, steps, (0,), (0,))
                with self.subTest(many=many), self.assertRaises(NoStep):
                    all_sets(many, steps, 1)

    def test_what_is_no_step(self):
        for many, good in SOME_STEPS.items():
            for thing in NO_STEP + [("up", many - 1, (1, 1)), ("down", many - 1, (1, 1)), ("scale", many, (1, 1))]:
                for steps in [[thing], good + [thing], [thing] + good]:
                    self.refused(NoStep, many, steps, 0, 0)
                    self.refused_sets(NoStep, many, steps, (0,), (0,))
                    with self.subTest(steps=steps), self.assertRaises(NoStep):
                        all_sets(many, steps, 1)

    def test_all_sets_refuses_steps_whatever_the_size(self):
        for size in [0, 1, 2, 3]:
            with self.assertRaises(NoStep):
                all_sets(2, [("up", 1, (1, 1))], size)
            with self.assertRaises(NoStep):
                all_sets(5, [], size)

    def test_what_is_no_level(self):
        for many, steps in SOME_STEPS.items():
            for thing in NO_SINGLE_PLACE + [many]:
                self.refused(NoPlace, many, steps, thing, 0)
                self.refused(NoPlace, many, steps, 0, thing)
                self.refused(NoPlace, many, steps, thing, thing)

    def test_what_are_no_levels(self):
        for many, steps in SOME_STEPS.items():
            for thing in NO_PLACES + [(many,), (0, many), (many - 1, many)]:
                self.refused_sets(NoPlace, many, steps, thing, (0,))
                self.refused_sets(NoPlace, many, steps, (0,), thing)
                self.refused_sets(NoPlace, many, steps, thing, thing)

    def test_not_as_many(self):
        for some, others in [((0,), (0, 1)), ((0, 1), (0,)), ((0, 1, 2), (1, 2)), ((1,), (0, 1, 2))]:
            self.refused_sets(NoFit, 3, SOME_STEPS[3], some, others)
            self.refused_sets(NoFit, 3, [], some, others)

    def test_no_step_comes_first_and_then_no_place(self):
        for thing in NO_SINGLE_PLACE:
            self.refused(NoStep, 2, [("up", 1, (1, 1))], thing, 0)
            self.refused(NoStep, 2, [("up", 1, (1, 1))], 0, thing)
            self.refused(NoStep, 5, [], thing, thing)
        for thing in NO_PLACES:
            self.refused_sets(NoStep, 2, [("up", 1, (1, 1))], thing, (0,))
            self.refused_sets(NoStep, 2, [("up", 1, (1, 1))], (0,), thing)
            self.refused_sets(NoStep, None, [], thing, (0, 1))
            self.refused_sets(NoPlace, 4, [], thing, (0, 1, 2, 3))
            self.refused_sets(NoPlace, 4, [], (0, 1, 2, 3), thing)
        self.refused_sets(NoStep, 2, [None], (0, 1), (0,))

    def test_as_fractions_of_no_steps(self):
        for many in range(1, 5):
            table = tuple(tuple(int(row == column) for column in range(many)) for row in range(many))
            told = tuple(tuple(share_of_ways(many, [], row, column) for column in range(many)) for row in range(many))
            self.assertEqual(told, as_fractions(table))
