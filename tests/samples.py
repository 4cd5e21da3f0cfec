"""Wells that several test files use."""

import itertools

well = (3, ((2, 2), (3, 1), (5, 2), (9, 1)))
WELL_OF_LISTS = [3, [[2, 2], [3, 1], [5, 2], [9, 1]]]
ONE_GROUP = (1, ((1, 1),))
NO_MOVES = (1, ((2, 3), (4, 1), (6, 2)))
BIG = 10 ** 12
HUGE = 10 ** 40
LARGE_WELL = (BIG, tuple((BIG - 11 + k, BIG) for k in range(12)))


def all_states(given):
    """Return all STATEs of a small well."""
    return list(itertools.product(*[range(size + 1) for _, size in given[1]]))
