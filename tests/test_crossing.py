"""crossing.py, promise [9] and the guarantees of [1], with the conventions of [2] and [3]."""

import unittest

from samples import (BIG, LARGE_WELL, NO_MOVES, ONE_GROUP, SMALL_WELLS, WELL_OF_LISTS, all_pairs,
                     all_states, well)
from search import counts_by_hand, reachable_from, sequences_from
from wellfolk.crossing import crossings, descent_bounds, max_moves
from wellfolk.errors import Unreachable
from wellfolk.reach import is_obstruction, obstruction

EMPTY = (0, 0, 0, 0)
FULL = (2, 1, 2, 1)
FUNCTIONS = (crossings, max_moves, descent_bounds)


def reachable_pairs(given):
    """Return all pairs of a STATE and a STATE that is reachable from it."""
    return [(source, target) for source in all_states(given)
            for target in reachable_from(given, source)]


class CrossingsTest(unittest.TestCase):

    def test_example(self):
        self.assertEqual(crossings(well, EMPTY, (0, 0, 2, 0)), (2, 2, 2, 0))

    def test_the_increase_of_the_suffix_counts(self):
        for given in SMALL_WELLS:
            for source, target in reachable_pairs(given):
                before, after = counts_by_hand(given, source), counts_by_hand(given, target)
                expected = tuple(after[k] - before[k] for k in range(len(source)))
                self.assertEqual(crossings(given, source, target), expected)

    def test_empty_full_and_one_group(self):
        self.assertEqual(crossings(well, EMPTY, (2, 1, 2, 0)), (5, 3, 2, 0))
        self.assertEqual(crossings((4, well[1]), EMPTY, FULL), (6, 4, 3, 1))
        self.assertEqual(crossings(well, FULL, FULL), (0, 0, 0, 0))
        self.assertEqual(crossings(ONE_GROUP, (0,), (1,)), (1,))
        self.assertEqual(crossings(NO_MOVES, (3, 1, 2), (3, 1, 2)), (0, 0, 0))

    def test_a_segment_that_is_not_grounded(self):
        given = (1, ((4, 2), (5, 2), (6, 2)))
        self.assertEqual(crossings(given, (2, 1, 0), (0, 1, 2)), (0, 2, 2))

    def test_large_groups(self):
        self.assertEqual(crossings(LARGE_WELL, (0,) * 12, (BIG,) * 12),
                         tuple(BIG * k for k in range(12, 0, -1)))

    def test_lists_and_names(self):
        source, target = [0, 0, 0, 0], [0, 0, 2, 0]
        result = crossings(WELL_OF_LISTS, source, target)
        self.assertEqual(result, (2, 2, 2, 0))
        self.assertIs(type(result), tuple)
        self.assertEqual(crossings(target=target, source=EMPTY, well=well), (2, 2, 2, 0))
        self.assertEqual([source, target], [[0, 0, 0, 0], [0, 0, 2, 0]])
        self.assertEqual(WELL_OF_LISTS, [3, [[2, 2], [3, 1], [5, 2], [9, 1]]])


class UnreachableTest(unittest.TestCase):

    def assert_unreachable(self, reason, given, source, target):
        for function in FUNCTIONS:
            with self.assertRaises(Unreachable) as caught:
                function(given, source, target)
            self.assertIs(type(caught.exception), Unreachable)
            self.assertEqual(Unreachable.__bases__, (ValueError,))
            self.assertEqual(caught.exception.reason, reason)
            self.assertIs(type(caught.exception.reason), tuple)

    def test_example(self):
        self.assert_unreachable(("more", 3), well, EMPTY, (0, 0, 0, 1))

    def test_fewer_and_more(self):
        self.assert_unreachable(("fewer", 2), well, (0, 0, 1, 0), (2, 1, 0, 0))
        self.assert_unreachable(("fewer", 0), well, FULL, EMPTY)
        self.assert_unreachable(("more", 0), NO_MOVES, (0, 1, 0), (1, 0, 0))
        self.assert_unreachable(("fewer", 0), ONE_GROUP, (1,), (0,))
        self.assert_unreachable(("more", 0), (1, ((2, 1),)), (0,), (1,))

    def test_each_pair_of_states(self):
        for given in SMALL_WELLS[:9]:
            for source, target in all_pairs(given):
                if target not in reachable_from(given, source):
                    reason = obstruction(given, source, target)
                    self.assertIs(is_obstruction(given, source, target, reason), True)
                    self.assert_unreachable(reason, given, source, target)

    def test_large_groups_and_lists(self):
        source, target = [BIG] * 12, [BIG] * 11 + [BIG - 1]
        self.assert_unreachable(("fewer", 0), LARGE_WELL, source, target)
        self.assertEqual([source, target], [[BIG] * 12, [BIG] * 11 + [BIG - 1]])
        self.assert_unreachable(("more", 3), WELL_OF_LISTS, [0, 0, 0, 0], [0, 0, 0, 1])
        self.assertEqual(WELL_OF_LISTS, [3, [[2, 2], [3, 1], [5, 2], [9, 1]]])


class MaxMovesTest(unittest.TestCase):

    def test_example(self):
        self.assertEqual(max_moves(well, EMPTY, (0, 0, 2, 0)), 6)

    def test_what_a_search_finds(self):
        for given in SMALL_WELLS:
            for source in all_states(given):
                for target, (longest, _, _) in sequences_from(given, source).items():
                    self.assertEqual(max_moves(given, source, target), longest,
                                     (given, source, target))

    def test_the_sum_of_the_crossings(self):
        for given in SMALL_WELLS:
            for source, target in reachable_pairs(given):
                self.assertEqual(max_moves(given, source, target),
                                 sum(crossings(given, source, target)))

    def test_a_state_and_itself(self):
        for state in (EMPTY, FULL, (1, 0, 1, 0)):
            self.assertEqual(max_moves(well, state, state), 0)

    def test_large_groups(self):
        self.assertEqual(max_moves(LARGE_WELL, (0,) * 12, (BIG,) * 12), 78 * BIG)
        self.assertEqual(max_moves((BIG, ((BIG, BIG),)), (0,), (BIG,)), BIG)

    def test_lists_and_names(self):
        source, target = [0, 0, 0, 0], [0, 0, 2, 0]
        self.assertEqual(max_moves(WELL_OF_LISTS, source, target), 6)
        self.assertEqual(max_moves(target=target, source=source, well=well), 6)
        self.assertEqual([source, target], [[0, 0, 0, 0], [0, 0, 2, 0]])
        self.assertEqual(WELL_OF_LISTS, [3, [[2, 2], [3, 1], [5, 2], [9, 1]]])


class DescentBoundsTest(unittest.TestCase):

    def test_example(self):
        self.assertEqual(descent_bounds(well, EMPTY, (0, 0, 2, 0)),
                         [(0, 2), (0, 2), (2, 2), (0, 0)])

    def test_what_a_search_finds(self):
        for given in SMALL_WELLS:
            for source in all_states(given):
                for target, (_, least, most) in sequences_from(given, source).items():
                    self.assertEqual(descent_bounds(given, source, target),
                                     list(zip(least, most)), (given, source, target))

    def test_passing_over_a_group_at_the_limit_and_above(self):
        groups = ((4, 2), (5, 2), (7, 2))
        self.assertEqual(descent_bounds((3, groups), (2, 0, 0), (0, 0, 2)),
                         [(0, 0), (0, 2), (2, 2)])
        self.assertEqual(descent_bounds((2, groups), (2, 0, 0), (0, 0, 2)),
                         [(0, 0), (2, 2), (2, 2)])
        groups = ((1, 2), (3, 2))
        self.assertEqual(descent_bounds((3, groups), (0, 0), (0, 2)), [(0, 2), (2, 2)])
        self.assertEqual(descent_bounds((2, groups), (0, 0), (0, 2)), [(2, 2), (2, 2)])

    def test_more_people_than_can_pass_over(self):
        self.assertEqual(descent_bounds(well, EMPTY, (2, 1, 2, 0)),
                         [(2, 5), (1, 3), (2, 2), (0, 0)])
        self.assertEqual(descent_bounds(well, (1, 1, 0, 0), (0, 0, 2, 0)),
                         [(0, 0), (0, 1), (2, 2), (0, 0)])

    def test_a_state_and_itself_and_one_group(self):
        self.assertEqual(descent_bounds(well, FULL, FULL), [(0, 0)] * 4)
        self.assertEqual(descent_bounds(ONE_GROUP, (0,), (1,)), [(1, 1)])
        self.assertEqual(descent_bounds((5, ((5, 9),)), (2,), (9,)), [(7, 7)])

    def test_large_groups(self):
        bounds = descent_bounds(LARGE_WELL, (0,) * 12, (BIG,) * 12)
        self.assertEqual(bounds, [(BIG, BIG * k) for k in range(12, 0, -1)])
        given = (3, ((2, BIG), (3, BIG), (5, BIG)))
        self.assertEqual(descent_bounds(given, (0, 0, 0), (0, 0, BIG)),
                         [(0, BIG), (0, BIG), (BIG, BIG)])

    def test_lists_and_names(self):
        source, target = [0, 0, 0, 0], [0, 0, 2, 0]
        expected = [(0, 2), (0, 2), (2, 2), (0, 0)]
        result = descent_bounds(WELL_OF_LISTS, source, target)
        self.assertEqual(result, expected)
        self.assertEqual([type(part) for part in [result] + result], [list] + [tuple] * 4)
        self.assertEqual(descent_bounds(target=target, source=source, well=well), expected)
        self.assertEqual([source, target], [[0, 0, 0, 0], [0, 0, 2, 0]])
        self.assertEqual(WELL_OF_LISTS, [3, [[2, 2], [3, 1], [5, 2], [9, 1]]])

    def test_a_changed_result_does_not_affect_a_later_call(self):
        result = descent_bounds(well, EMPTY, (0, 0, 2, 0))
        result.clear()
        self.assertEqual(descent_bounds(well, EMPTY, (0, 0, 2, 0)),
                         [(0, 2), (0, 2), (2, 2), (0, 0)])


if __name__ == "__main__":
    unittest.main()
