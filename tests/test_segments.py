"""segments.py, promise [6], with the limits and conventions of [2] and [3]."""

import copy
import unittest

from samples import (BIG, LARGE_WELL, NO_MOVES, ONE_GROUP, SMALL_WELLS, WELL_OF_LISTS, all_states,
                     well)
from search import after_move, counts_by_hand, legal_pairs, segments_by_hand
from wellfolk.segments import is_grounded, segments, state_from_counts, suffix_counts
from wellfolk.wells import is_state


class SegmentsTest(unittest.TestCase):

    def test_example(self):
        self.assertEqual(segments(well), [[0, 1, 2], [3]])

    def test_a_gap_equal_to_the_limit_and_one_more(self):
        self.assertEqual(segments((3, ((1, 1), (4, 1)))), [[0, 1]])
        self.assertEqual(segments((3, ((1, 1), (5, 1)))), [[0], [1]])
        self.assertEqual(segments((4, well[1])), [[0, 1, 2, 3]])
        self.assertEqual(segments((2, well[1])), [[0, 1, 2], [3]])
        self.assertEqual(segments((1, well[1])), [[0, 1], [2], [3]])

    def test_only_the_gap_to_the_previous_group_counts(self):
        self.assertEqual(segments((2, ((4, 1), (6, 1), (8, 1), (10, 1)))), [[0, 1, 2, 3]])
        self.assertEqual(segments((2, ((4, 1), (6, 1), (9, 1), (11, 1)))), [[0, 1], [2, 3]])

    def test_the_first_group_is_in_the_first_segment(self):
        self.assertEqual(segments((3, ((100, 1), (101, 1)))), [[0, 1]])
        self.assertEqual(segments((3, ((100, 1), (104, 1)))), [[0], [1]])
        self.assertEqual(segments(NO_MOVES), [[0], [1], [2]])

    def test_one_group(self):
        self.assertEqual(segments(ONE_GROUP), [[0]])
        self.assertEqual(segments((1, ((2, 1),))), [[0]])

    def test_large_numbers(self):
        self.assertEqual(segments(LARGE_WELL), [list(range(12))])
        self.assertEqual(segments((BIG - 1, ((1, BIG), (BIG, BIG)))), [[0, 1]])
        self.assertEqual(segments((BIG - 2, ((1, BIG), (BIG, BIG)))), [[0], [1]])
        apart = (1, tuple((2 * k + 2, BIG) for k in range(12)))
        self.assertEqual(segments(apart), [[k] for k in range(12)])

    def test_each_small_well(self):
        for given in SMALL_WELLS:
            self.assertEqual(segments(given), segments_by_hand(given)[0], given)

    def test_lists_and_names(self):
        given = copy.deepcopy(WELL_OF_LISTS)
        self.assertEqual(segments(given), [[0, 1, 2], [3]])
        self.assertEqual(segments((3, [[2, 2], (3, 1), [5, 2], (9, 1)])), [[0, 1, 2], [3]])
        self.assertEqual(segments(well=given), [[0, 1, 2], [3]])
        self.assertEqual(given, WELL_OF_LISTS)

    def test_a_changed_result_does_not_affect_a_later_call(self):
        result = segments(well)
        self.assertEqual([type(part) for part in [result] + result], [list] * 3)
        result[0].append(7)
        result.pop()
        self.assertEqual(segments(well), [[0, 1, 2], [3]])


class IsGroundedTest(unittest.TestCase):

    def test_example(self):
        self.assertIs(is_grounded(well), True)

    def test_a_first_weight_equal_to_the_limit_and_one_more(self):
        self.assertIs(is_grounded((3, ((3, 1),))), True)
        self.assertIs(is_grounded((3, ((4, 1),))), False)
        self.assertIs(is_grounded((2, well[1])), True)
        self.assertIs(is_grounded((1, well[1])), False)
        self.assertIs(is_grounded(ONE_GROUP), True)
        self.assertIs(is_grounded((BIG, ((BIG, BIG),))), True)
        self.assertIs(is_grounded((BIG - 1, ((BIG, BIG),))), False)

    def test_the_other_groups_do_not_count(self):
        self.assertIs(is_grounded((3, ((1, 1), (100, 1)))), True)
        self.assertIs(is_grounded((3, ((4, 1), (5, 1)))), False)
        self.assertIs(is_grounded(LARGE_WELL), True)
        self.assertIs(is_grounded(NO_MOVES), False)

    def test_lists_and_names(self):
        given = [3, [[4, 1], (5, 1)]]
        self.assertIs(is_grounded(given), False)
        self.assertIs(is_grounded(well=WELL_OF_LISTS), True)
        self.assertEqual(given, [3, [[4, 1], (5, 1)]])


class SuffixCountsTest(unittest.TestCase):

    def test_example(self):
        self.assertEqual(suffix_counts(well, (1, 0, 2, 1)), (3, 2, 2, 1))

    def test_empty_and_full(self):
        self.assertEqual(suffix_counts(well, (0, 0, 0, 0)), (0, 0, 0, 0))
        self.assertEqual(suffix_counts(well, (2, 1, 2, 1)), (5, 3, 2, 1))
        self.assertEqual(suffix_counts((4, well[1]), (2, 1, 2, 1)), (6, 4, 3, 1))
        self.assertEqual(suffix_counts(NO_MOVES, (3, 1, 2)), (3, 1, 2))
        self.assertEqual(suffix_counts(ONE_GROUP, (1,)), (1,))

    def test_several_segments(self):
        given = (2, ((5, 1), (6, 2), (7, 1), (10, 1), (12, 2)))
        self.assertEqual(suffix_counts(given, (1, 2, 0, 1, 2)), (3, 2, 0, 3, 2))

    def test_large_groups(self):
        counts = suffix_counts(LARGE_WELL, (BIG,) * 12)
        self.assertEqual(counts, tuple(BIG * k for k in range(12, 0, -1)))
        self.assertEqual(state_from_counts(LARGE_WELL, counts), (BIG,) * 12)

    def test_each_state_of_each_small_well(self):
        for given in SMALL_WELLS:
            for state in all_states(given):
                self.assertEqual(suffix_counts(given, state), counts_by_hand(given, state))

    def test_what_a_move_changes(self):
        for given in SMALL_WELLS:
            for state in all_states(given):
                for down, up in legal_pairs(given, state):
                    before = suffix_counts(given, state)
                    after = suffix_counts(given, after_move(state, (down, up)))
                    changed = [k for k in range(len(state)) if after[k] == before[k] + 1]
                    self.assertEqual(changed, list(range(up + 1, down + 1)))
                    self.assertEqual(sum(after) - sum(before), down - up)

    def test_lists_and_names(self):
        state = [1, 0, 2, 1]
        counts = suffix_counts(WELL_OF_LISTS, state)
        self.assertEqual(counts, (3, 2, 2, 1))
        self.assertIs(type(counts), tuple)
        self.assertEqual(suffix_counts(state=state, well=well), (3, 2, 2, 1))
        self.assertEqual(state, [1, 0, 2, 1])
        self.assertEqual(WELL_OF_LISTS, [3, [[2, 2], [3, 1], [5, 2], [9, 1]]])


class StateFromCountsTest(unittest.TestCase):

    def test_example(self):
        self.assertEqual(state_from_counts(well, (3, 2, 2, 1)), (1, 0, 2, 1))

    def test_one_group_and_several_segments(self):
        self.assertEqual(state_from_counts(ONE_GROUP, (1,)), (1,))
        self.assertEqual(state_from_counts(NO_MOVES, (3, 1, 2)), (3, 1, 2))
        given = (2, ((5, 1), (6, 2), (7, 1), (10, 1), (12, 2)))
        self.assertEqual(state_from_counts(given, (3, 2, 0, 3, 2)), (1, 2, 0, 1, 2))

    def test_it_reverts_suffix_counts(self):
        for given in SMALL_WELLS:
            for state in all_states(given):
                result = state_from_counts(given, suffix_counts(given, state))
                self.assertEqual(result, state)
                self.assertIs(is_state(given, result), True)

    def test_lists_and_names(self):
        counts = [3, 2, 2, 1]
        state = state_from_counts(WELL_OF_LISTS, counts)
        self.assertEqual(state, (1, 0, 2, 1))
        self.assertIs(type(state), tuple)
        self.assertEqual(state_from_counts(counts=counts, well=well), (1, 0, 2, 1))
        self.assertEqual(counts, [3, 2, 2, 1])
        self.assertEqual(WELL_OF_LISTS, [3, [[2, 2], [3, 1], [5, 2], [9, 1]]])


if __name__ == "__main__":
    unittest.main()
