"""Nets: ways through steps from level to level, and sets of ways that never meet."""

from minortables.checks import need_place, need_places
from minortables.errors import NoFit
from minortables.fractions import sum_of, times_of
from minortables.minors import rising_tuples
from minortables.steps import need_steps, table_of_step
from minortables.tables import columns_of


def step_tables(many, steps):
    return [table_of_step(many, word, place, share) for word, place, share in steps]


def with_one_more(behind, share, row):
    told = []
    for level, more in enumerate(row):
        if more[0] != 0 and level not in behind:
            told.append((behind + (level,), times_of(share, more)))
    return told


def goings(table, levels):
    # All go at once, so it is here that no two come to one level.
    told = [((), (1, 1))]
    for level in levels:
        longer = []
        for behind, share in told:
            longer.extend(with_one_more(behind, share, table[level]))
        told = longer
    return told


def runs_from(tables, some):
    told = [((some,), (1, 1))]
    for table in tables:
        longer = []
        for run, share in told:
            for behind, more in goings(table, run[-1]):
                longer.append((run + (behind,), times_of(share, more)))
        told = longer
    return told


def runs_between(many, steps, some, others):
    runs = runs_from(step_tables(many, steps), some)
    return [(columns_of(run), share) for run, share in runs if run[-1] == others]


def shares_from(tables, some):
    # Sets that are at the same levels go on alike, so their shares go on together: there are far more sets than levels.
    shares = {some: (1, 1)}
    for table in tables:
        later = {}
        for levels, share in shares.items():
            for behind, more in goings(table, levels):
                later[behind] = sum_of(later.get(behind, (0, 1)), times_of(share, more))
        shares = later
    return shares


def share_between(many, steps, some, others):
    return shares_from(step_tables(many, steps), some).get(others, (0, 1))


def need_levels(many, steps, start, end):
    need_steps(many, steps)
    need_place(start, many)
    need_place(end, many)


def need_sets(many, steps, some, others):
    need_steps(many, steps)
    need_places(some, many)
    need_places(others, many)
    if len(some) != len(others):
        raise NoFit("not as many levels")


def ways(many, steps, start, end):
    need_levels(many, steps, start, end)
    return [(levels[0], share) for levels, share in runs_between(many, steps, (start,), (end,))]


def share_of_ways(many, steps, start, end):
    need_levels(many, steps, start, end)
    return share_between(many, steps, (start,), (end,))


def sets_of_ways(many, steps, some, others):
    need_sets(many, steps, some, others)
    return runs_between(many, steps, some, others)


def share_of_sets(many, steps, some, others):
    need_sets(many, steps, some, others)
    return share_between(many, steps, some, others)


def all_sets(many, steps, size):
    need_steps(many, steps)
    tables = step_tables(many, steps)
    # Of size 0 or less there would be the empty tuple, which is not told.
    places = [some for some in rising_tuples(many, size) if len(some) > 0]
    told = []
    for some in places:
        shares = shares_from(tables, some)
        told.extend([(some, others, shares.get(others, (0, 1))) for others in places])
    return told
