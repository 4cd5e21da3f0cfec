"""limits_for.py, promise [13], with [1] (f) and the conventions of [2] and [3]."""

import functools
import unittest

from checks import ErrorCase
from samples import (BIG, HUGE, LARGE_WELL, NO_MOVES, ONE_GROUP, SMALL_WELLS, WELL_OF_LISTS,
                     all_pairs, all_states, well)
from search import reachable_from, sizes_from
from wellfolk.covers import min_moves
from wellfolk.limits_for import min_limit, min_limit_for, with_limit
from wellfolk.reach import is_reachable
from wellfolk.wells import is_well

EMPTY = (0, 0, 0, 0)
FULL = (2, 1, 2, 1)
NINE = (0, 0, 0, 1)
LARGE_EMPTY = (0,) * 12
LARGE_FULL = (BIG,) * 12
# One well for each kind of groups: these functions ignore the limit.
WELLS = list({given[1]: given for given in SMALL_WELLS}.values())


@functools.lru_cache(maxsize=None)
def limits_by_search(groups, source):
    """Return for each STATE pairs (limit, least number of MOVEs), for each limit that matters."""
    found = {}
    for limit in range(1, groups[-1][0] + 1):
        for target, sizes in sizes_from((limit, groups), source).items():
            found.setdefault(target, []).append((limit, min(sizes)))
    return found


class WithLimitTest(ErrorCase):

    def test_example(self):
        self.assertEqual(with_limit(well, 4), (4, ((2, 2), (3, 1), (5, 2), (9, 1))))

    def test_other_limits(self):
        for given in SMALL_WELLS:
            for limit in (1, given[0], given[0] + 1, BIG, HUGE):
                result = with_limit(given, limit)
                self.assertEqual(result, (limit, given[1]))
                self.assertIs(is_well(result), True)

    def test_lists_and_names(self):
        result = self.assert_unchanged(with_limit, WELL_OF_LISTS, 4)
        self.assertEqual(result, (4, well[1]))
        self.assertIs(is_well(result), True)
        self.assertEqual(with_limit(limit=4, well=WELL_OF_LISTS), (4, well[1]))
        self.assertEqual(with_limit((3, [(2, 2), [3, 1]]), 1), (1, ((2, 2), (3, 1))))
        self.assertEqual(with_limit([3, ((2, 2), (3, 1))], 1), (1, ((2, 2), (3, 1))))


class MinLimitTest(ErrorCase):

    def test_examples(self):
        self.assertEqual(min_limit(well, EMPTY, NINE), 4)
        self.assertIsNone(min_limit(well, (0, 0, 1, 0), (1, 0, 0, 0)))

    def test_what_a_search_finds(self):
        for given in WELLS:
            for source, target in all_pairs(given):
                found = limits_by_search(given[1], source).get(target)
                expected = found[0][0] if found else None
                self.assertEqual(min_limit(given, source, target), expected,
                                 (given, source, target))

    def test_it_just_suffices_and_one_less_does_not(self):
        for given in WELLS:
            for source, target in all_pairs(given):
                limit = min_limit(given, source, target)
                if limit is not None:
                    self.assertIs(is_reachable((limit, given[1]), source, target), True)
                    if limit > 1:
                        self.assertIs(is_reachable((limit - 1, given[1]), source, target), False)

    def test_the_limit_of_the_well_is_ignored(self):
        for limit in (1, 2, 3, 4, 9, BIG):
            given = (limit, well[1])
            self.assertEqual(min_limit(given, EMPTY, NINE), 4)
            self.assertEqual(min_limit(given, EMPTY, (1, 0, 0, 0)), 2)
            self.assertEqual(min_limit(given, (1, 0, 0, 0), (0, 1, 0, 0)), 1)
            self.assertIsNone(min_limit(given, FULL, EMPTY))

    def test_a_state_and_itself(self):
        for given in (well, NO_MOVES, ONE_GROUP, (BIG, ((BIG, 2),))):
            for state in all_states(given):
                self.assertEqual(min_limit(given, state, state), 1)

    def test_the_first_weight_and_a_gap(self):
        self.assertEqual(min_limit((1, ((7, 3),)), (0,), (1,)), 7)
        self.assertEqual(min_limit(ONE_GROUP, (0,), (1,)), 1)
        self.assertEqual(min_limit(NO_MOVES, (0, 0, 1), (0, 1, 1)), 2)
        self.assertEqual(min_limit((1, ((7, 3), (9, 3))), (2, 0), (0, 2)), 2)
        self.assertEqual(min_limit((1, ((7, 3), (9, 3))), (2, 0), (1, 2)), 7)

    def test_large_weights_and_groups(self):
        self.assertEqual(min_limit(LARGE_WELL, LARGE_EMPTY, LARGE_FULL), BIG - 11)
        self.assertEqual(min_limit(LARGE_WELL, (BIG,) * 6 + (0,) * 6, (0,) * 6 + (BIG,) * 6), 1)
        self.assertIsNone(min_limit(LARGE_WELL, LARGE_FULL, LARGE_EMPTY))
        self.assertEqual(min_limit((1, ((1, BIG), (BIG, BIG))), (0, 0), (0, BIG)), BIG - 1)
        self.assertEqual(min_limit((1, ((BIG, BIG),)), (0,), (BIG,)), BIG)

    def test_lists_and_names(self):
        result = self.assert_unchanged(min_limit, WELL_OF_LISTS, list(EMPTY), list(NINE))
        self.assertEqual(result, 4)
        self.assertIs(type(result), int)
        self.assertEqual(min_limit(target=NINE, source=list(EMPTY), well=well), 4)


class MinLimitForTest(ErrorCase):

    def test_example(self):
        self.assertEqual(min_limit_for(well, EMPTY, NINE, 2), 5)

    def test_what_a_search_finds(self):
        for given in WELLS:
            for source in all_states(given):
                found = limits_by_search(given[1], source)
                for target in all_states(given):
                    pairs = found.get(target, [])
                    for size in range(max([least for _, least in pairs], default=1) + 2):
                        enough = [limit for limit, least in pairs if least <= size]
                        expected = enough[0] if enough else None
                        self.assertEqual(min_limit_for(given, source, target, size), expected,
                                         (given, source, target, size))

    def test_more_moves_need_a_smaller_limit(self):
        self.assertEqual([min_limit_for(well, EMPTY, NINE, size) for size in range(7)],
                         [None, 9, 5, 4, 4, 4, 4])
        self.assertEqual([min_limit_for(well, (0, 1, 0, 0), NINE, size) for size in range(5)],
                         [None, 6, 4, 4, 4])

    def test_it_just_suffices_and_one_less_does_not(self):
        for size in (1, 2, 3):
            limit = min_limit_for(well, EMPTY, NINE, size)
            self.assertLessEqual(min_moves((limit, well[1]), EMPTY, NINE), size)
            less = (limit - 1, well[1])
            self.assertFalse(is_reachable(less, EMPTY, NINE)
                             and min_moves(less, EMPTY, NINE) <= size)

    def test_no_moves_at_all(self):
        for state in all_states(well):
            for size in (0, 1, BIG, HUGE):
                self.assertEqual(min_limit_for(well, state, state, size), 1)
        self.assertIsNone(min_limit_for(well, EMPTY, (1, 0, 0, 0), 0))
        self.assertEqual(min_limit_for(well, EMPTY, (1, 0, 0, 0), 1), 2)

    def test_not_reachable_with_any_limit(self):
        for size in (0, 1, 5, BIG):
            self.assertIsNone(min_limit_for(well, (0, 0, 1, 0), (1, 0, 0, 0), size))
            self.assertIsNone(min_limit_for(well, FULL, EMPTY, size))

    def test_any_number_of_moves(self):
        for given in WELLS[:6]:
            for source, target in all_pairs(given):
                self.assertEqual(min_limit_for(given, source, target, BIG),
                                 min_limit(given, source, target))

    def test_the_limit_of_the_well_is_ignored(self):
        for limit in (1, 4, 5, 9, BIG):
            self.assertEqual(min_limit_for((limit, well[1]), EMPTY, NINE, 2), 5)

    def test_large_weights_and_groups(self):
        source, target = (BIG,) * 6 + (0,) * 6, (0,) * 6 + (BIG,) * 6
        self.assertEqual(min_limit_for(LARGE_WELL, source, target, 36 * BIG), 1)
        self.assertEqual(min_limit_for(LARGE_WELL, source, target, 36 * BIG - 1), 2)
        self.assertEqual(min_limit_for(LARGE_WELL, source, target, 12 * BIG), 3)
        self.assertEqual(min_limit_for(LARGE_WELL, source, target, 12 * BIG - 1), 4)
        self.assertEqual(min_limit_for(LARGE_WELL, source, target, 6 * BIG), 6)
        self.assertIsNone(min_limit_for(LARGE_WELL, source, target, 6 * BIG - 1))
        self.assertEqual(min_limit_for(LARGE_WELL, LARGE_EMPTY, LARGE_FULL, 78 * BIG), BIG - 11)
        self.assertEqual(min_limit_for(LARGE_WELL, LARGE_EMPTY, LARGE_FULL, 12 * BIG), BIG)
        self.assertIsNone(min_limit_for(LARGE_WELL, LARGE_EMPTY, LARGE_FULL, 12 * BIG - 1))

    def test_lists_and_names(self):
        result = self.assert_unchanged(min_limit_for, WELL_OF_LISTS, list(EMPTY), list(NINE), 2)
        self.assertEqual(result, 5)
        self.assertEqual(min_limit_for(size=2, target=NINE, source=list(EMPTY), well=well), 5)

    def test_a_reachable_state_needs_at_most_the_limit_of_the_well(self):
        for given in WELLS[:6]:
            for source in all_states(given):
                for target in reachable_from(given, source):
                    self.assertLessEqual(min_limit(given, source, target), given[0])


if __name__ == "__main__":
    unittest.main()
