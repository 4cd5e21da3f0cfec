"""lattice.py, promise [8] and the guarantees of [1], with the conventions of [2] and [3]."""

import unittest

from samples import (BIG, LARGE_WELL, NO_MOVES, ONE_GROUP, SMALL_WELLS, WELL_OF_LISTS, all_pairs,
                     all_states, well)
from search import reachable_from, segments_by_hand
from wellfolk.lattice import are_compatible, join, meet
from wellfolk.wells import is_state

EMPTY = (0, 0, 0, 0)
FULL = (2, 1, 2, 1)
UNGROUNDED = (2, ((5, 1), (6, 2), (7, 1), (10, 1), (12, 2)))


def sources_of(given):
    """Return for each STATE the set of the STATEs from which it is reachable."""
    states = all_states(given)
    return {state: {source for source in states if state in reachable_from(given, source)}
            for state in states}


class AreCompatibleTest(unittest.TestCase):

    def test_example(self):
        self.assertIs(are_compatible(well, (0, 0, 0, 0), (0, 0, 0, 1)), False)

    def test_what_a_search_finds(self):
        for given in SMALL_WELLS:
            for first, second in all_pairs(given):
                common = reachable_from(given, first) & reachable_from(given, second)
                self.assertIs(are_compatible(given, first, second), bool(common),
                              (given, first, second))

    def test_equally_many_people_in_each_segment_that_is_not_grounded(self):
        for given in SMALL_WELLS:
            parts, starts = segments_by_hand(given)
            fixed = [part for part in parts if starts[part[0]]]
            for first, second in all_pairs(given):
                expected = all(sum(first[k] for k in part) == sum(second[k] for k in part)
                               for part in fixed)
                self.assertIs(are_compatible(given, first, second), expected)

    def test_a_grounded_segment_alone(self):
        self.assertIs(are_compatible(well, EMPTY, (2, 1, 2, 0)), True)
        self.assertIs(are_compatible((4, well[1]), EMPTY, FULL), True)
        self.assertIs(are_compatible((4, well[1]), FULL, EMPTY), True)
        self.assertIs(are_compatible(ONE_GROUP, (0,), (1,)), True)
        self.assertIs(are_compatible((1, ((2, 1),)), (0,), (1,)), False)

    def test_each_segment_counts_by_itself(self):
        self.assertIs(are_compatible(UNGROUNDED, (1, 1, 0, 0, 1), (0, 1, 1, 1, 0)), True)
        self.assertIs(are_compatible(UNGROUNDED, (1, 1, 0, 0, 1), (0, 1, 0, 1, 1)), False)
        self.assertIs(are_compatible(UNGROUNDED, (1, 1, 0, 0, 1), (0, 1, 1, 1, 1)), False)
        self.assertIs(are_compatible(UNGROUNDED, (1, 1, 0, 0, 1), (0, 1, 0, 1, 0)), False)

    def test_a_gap_and_a_first_weight_at_the_limit_and_above(self):
        groups = ((3, 2), (6, 2))
        self.assertIs(are_compatible((3, groups), (0, 0), (0, 2)), True)
        self.assertIs(are_compatible((2, groups), (0, 0), (2, 0)), False)
        self.assertIs(are_compatible((3, ((3, 2), (7, 2))), (0, 0), (2, 0)), True)
        self.assertIs(are_compatible((3, ((3, 2), (7, 2))), (0, 0), (0, 2)), False)
        self.assertIs(are_compatible((3, ((4, 2), (7, 2))), (2, 0), (0, 2)), True)
        self.assertIs(are_compatible((3, ((4, 2), (7, 2))), (2, 0), (0, 1)), False)

    def test_large_groups(self):
        self.assertIs(are_compatible(LARGE_WELL, (0,) * 12, (BIG,) * 12), True)
        heavy = (1, ((BIG - 1, BIG), (BIG, BIG)))
        self.assertIs(are_compatible(heavy, (BIG, 0), (0, BIG)), True)
        self.assertIs(are_compatible(heavy, (BIG, 0), (0, BIG - 1)), False)

    def test_lists_and_names(self):
        first, second = [0, 0, 0, 0], [0, 0, 0, 1]
        self.assertIs(are_compatible(WELL_OF_LISTS, first, second), False)
        self.assertIs(are_compatible(WELL_OF_LISTS, first, (0, 1, 0, 0)), True)
        self.assertIs(are_compatible(second=second, first=first, well=well), False)
        self.assertEqual([first, second], [[0, 0, 0, 0], [0, 0, 0, 1]])
        self.assertEqual(WELL_OF_LISTS, [3, [[2, 2], [3, 1], [5, 2], [9, 1]]])


class JoinAndMeetTest(unittest.TestCase):

    def test_examples(self):
        self.assertEqual(join(well, (2, 0, 0, 0), (0, 0, 1, 0)), (1, 0, 1, 0))
        self.assertEqual(meet(well, (2, 0, 0, 0), (0, 0, 1, 0)), (1, 0, 0, 0))

    def test_the_join_that_a_search_finds(self):
        for given in SMALL_WELLS:
            for first, second in all_pairs(given):
                common = reachable_from(given, first) & reachable_from(given, second)
                best = [state for state in common if common <= reachable_from(given, state)]
                self.assertEqual([join(given, first, second)], best or [None],
                                 (given, first, second))

    def test_the_meet_that_a_search_finds(self):
        for given in SMALL_WELLS:
            sources = sources_of(given)
            for first, second in all_pairs(given):
                common = sources[first] & sources[second]
                best = [state for state in common if common <= sources[state]]
                self.assertEqual([meet(given, first, second)], best or [None],
                                 (given, first, second))

    def test_states_that_are_not_compatible(self):
        for function in (join, meet):
            self.assertIsNone(function(well, EMPTY, (0, 0, 0, 1)))
            self.assertIsNone(function(well, FULL, EMPTY))
            self.assertIsNone(function(NO_MOVES, (0, 0, 0), (0, 0, 1)))
            self.assertIsNone(function((1, ((2, 1),)), (0,), (1,)))
            self.assertIsNone(function(UNGROUNDED, (1, 1, 0, 0, 1), (0, 1, 0, 1, 1)))

    def test_a_state_and_itself_and_a_reachable_one(self):
        for given in SMALL_WELLS:
            for first in all_states(given):
                self.assertEqual(join(given, first, first), first)
                self.assertEqual(meet(given, first, first), first)
                for second in reachable_from(given, first):
                    self.assertEqual(join(given, first, second), second)
                    self.assertEqual(join(given, second, first), second)
                    self.assertEqual(meet(given, first, second), first)
                    self.assertEqual(meet(given, second, first), first)

    def test_they_are_states(self):
        for function in (join, meet):
            for first, second in all_pairs(well):
                result = function(well, first, second)
                self.assertTrue(result is None or is_state(well, result))

    def test_one_group(self):
        self.assertEqual(join(ONE_GROUP, (0,), (1,)), (1,))
        self.assertEqual(meet(ONE_GROUP, (0,), (1,)), (0,))

    def test_several_segments(self):
        first, second = (1, 1, 0, 0, 1), (0, 2, 0, 1, 0)
        self.assertEqual(join(UNGROUNDED, first, second), (0, 2, 0, 0, 1))
        self.assertEqual(meet(UNGROUNDED, first, second), (1, 1, 0, 1, 0))

    def test_large_groups(self):
        given = (3, ((2, BIG), (3, BIG), (5, BIG)))
        first, second = (BIG, 0, 0), (0, 0, BIG - 1)
        self.assertEqual(join(given, first, second), (1, 0, BIG - 1))
        self.assertEqual(meet(given, first, second), (BIG - 1, 0, 0))
        self.assertEqual(join(LARGE_WELL, (0,) * 12, (BIG,) * 12), (BIG,) * 12)
        self.assertEqual(meet(LARGE_WELL, (0,) * 12, (BIG,) * 12), (0,) * 12)

    def test_lists_and_names(self):
        first, second = [2, 0, 0, 0], [0, 0, 1, 0]
        for function, expected in ((join, (1, 0, 1, 0)), (meet, (1, 0, 0, 0))):
            result = function(WELL_OF_LISTS, first, second)
            self.assertEqual(result, expected)
            self.assertIs(type(result), tuple)
            self.assertEqual(function(second=second, first=(2, 0, 0, 0), well=well), expected)
            self.assertIsNone(function(WELL_OF_LISTS, first, [0, 0, 0, 1]))
        self.assertEqual([first, second], [[2, 0, 0, 0], [0, 0, 1, 0]])
        self.assertEqual(WELL_OF_LISTS, [3, [[2, 2], [3, 1], [5, 2], [9, 1]]])


if __name__ == "__main__":
    unittest.main()
