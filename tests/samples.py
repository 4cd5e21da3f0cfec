"""Wells that several test files use."""

import itertools

well = (3, ((2, 2), (3, 1), (5, 2), (9, 1)))
WELL_OF_LISTS = [3, [[2, 2], [3, 1], [5, 2], [9, 1]]]
ONE_GROUP = (1, ((1, 1),))
NO_MOVES = (1, ((2, 3), (4, 1), (6, 2)))
BIG = 10 ** 12
HUGE = 10 ** 40
LARGE_WELL = (BIG, tuple((BIG - 11 + k, BIG) for k in range(12)))


def all_states(given):
    """Return all STATEs of a small well."""
    return list(itertools.product(*[range(size + 1) for _, size in given[1]]))


def all_pairs(given):
    """Return all pairs of STATEs of a small well."""
    return list(itertools.product(all_states(given), repeat=2))


# Small enough for a search over all their states, and with every shape of segments: grounded or
# not, one or several, of one or more groups, with and without moves that pass over a group.
SMALL_WELLS = [
    well, (1, well[1]), (2, well[1]), (4, well[1]), (5, well[1]), (6, well[1]), (9, well[1]),
    NO_MOVES, ONE_GROUP, (1, ((2, 1),)), (2, ((2, 3),)), (1, ((2, 3),)),
    (2, ((4, 2), (5, 2), (6, 2))), (1, ((4, 2), (5, 2), (6, 2))), (2, ((4, 1), (6, 3), (7, 2))),
    (1, ((1, 1), (2, 2), (3, 1), (4, 1))), (2, ((1, 2), (2, 2), (3, 2), (4, 1))),
    (3, ((1, 1), (2, 1), (3, 2), (4, 1), (5, 1))), (2, ((1, 2), (5, 1), (6, 2), (7, 1))),
    (2, ((5, 1), (6, 2), (7, 1), (10, 1), (12, 2))), (3, ((2, 2), (6, 1), (10, 2))),
    (4, ((4, 1), (5, 1), (8, 2), (9, 2))), (3, ((4, 2), (5, 1), (8, 1), (9, 2))),
]
