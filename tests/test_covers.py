"""covers.py, promise [10], with [1] (c) and the conventions of [2], [3] and [9]."""

import itertools
import unittest

from checks import OTHER_KINDS, ErrorCase
from samples import (BIG, HUGE, LARGE_WELL, NO_MOVES, ONE_GROUP, SMALL_WELLS, WELL_OF_LISTS,
                     all_pairs, all_states, well)
from search import all_counts, reachable_from, sizes_from
from wellfolk.covers import are_move_counts, min_moves, move_counts
from wellfolk.crossing import max_moves
from wellfolk.errors import NoSuchSize, Unreachable
from wellfolk.moves import all_moves
from wellfolk.reach import obstruction

EMPTY = (0, 0, 0, 0)
FULL = (2, 1, 2, 1)
TWO = (0, 0, 2, 0)
SIX_OF_TWO = [(0, -1, 2), (1, 0, 2), (2, 1, 2)]
LARGE_EMPTY = (0,) * 12
LARGE_FULL = (BIG,) * 12


def total(counts):
    """Return the number of MOVEs of MOVE COUNTS."""
    return sum(count for _, _, count in counts)


def net_effect(counts, groups):
    """Return the net effect of MOVE COUNTS on each group."""
    return [sum(count * ((down == group) - (up == group)) for down, up, count in counts)
            for group in range(groups)]


class MinMovesTest(ErrorCase):

    def test_example(self):
        self.assertEqual(min_moves(well, EMPTY, TWO), 4)

    def test_what_a_search_finds(self):
        for given in SMALL_WELLS:
            for source in all_states(given):
                for target, sizes in sizes_from(given, source).items():
                    self.assertEqual(min_moves(given, source, target), min(sizes),
                                     (given, source, target))

    def test_a_state_and_itself(self):
        for given in (well, NO_MOVES, ONE_GROUP):
            for state in all_states(given):
                self.assertEqual(min_moves(given, state, state), 0)
        self.assertEqual(min_moves(LARGE_WELL, LARGE_FULL, LARGE_FULL), 0)

    def test_one_move(self):
        self.assertEqual(min_moves(ONE_GROUP, (0,), (1,)), 1)
        self.assertEqual(min_moves(well, (1, 0, 0, 0), (0, 0, 1, 0)), 1)
        self.assertEqual(min_moves(well, EMPTY, (0, 1, 0, 0)), 1)

    def test_long_moves_must_end_early_for_a_heavy_group_in_between(self):
        # Three people rise by two groups each, in one MOVE or in two.
        given = (2, ((2, 9), (3, 9), (4, 9), (5, 9)))
        self.assertEqual(min_moves(given, (3, 0, 0, 0), (0, 0, 3, 0)), 3)
        self.assertEqual(min_moves(given, (3, 0, 0, 0), (0, 0, 0, 3)), 6)
        self.assertEqual(min_moves(given, (3, 0, 0, 0), (0, 3, 0, 0)), 3)
        self.assertEqual(min_moves(given, (1, 2, 0, 0), (0, 1, 0, 2)), 3)
        self.assertEqual(min_moves(given, (1, 2, 0, 0), (0, 1, 1, 1)), 2)

    def test_large_groups(self):
        self.assertEqual(min_moves(LARGE_WELL, LARGE_EMPTY, LARGE_FULL), 12 * BIG)
        self.assertEqual(min_moves((1, LARGE_WELL[1]), (BIG,) + (0,) * 11, (0,) * 11 + (BIG,)),
                         11 * BIG)
        self.assertEqual(min_moves((2, LARGE_WELL[1]), (BIG,) + (0,) * 11, (0,) * 11 + (BIG,)),
                         6 * BIG)
        self.assertEqual(min_moves((BIG, ((BIG, BIG),)), (1,), (BIG,)), BIG - 1)
        given = (3, ((2, BIG), (3, BIG), (5, BIG), (9, BIG)))
        self.assertEqual(min_moves(given, EMPTY, (BIG, BIG - 1, BIG, 0)), 4 * BIG - 1)

    def test_lists_and_names(self):
        result = self.assert_unchanged(min_moves, WELL_OF_LISTS, list(EMPTY), list(TWO))
        self.assertEqual(result, 4)
        self.assertIs(type(result), int)
        self.assertEqual(min_moves(target=list(TWO), well=WELL_OF_LISTS, source=EMPTY), 4)


class MoveCountsTest(ErrorCase):

    def assert_connects(self, given, source, target, size):
        counts = move_counts(given, source, target, size=size)
        self.assert_lists(counts)
        moves = [part[:2] for part in counts]
        self.assertEqual(moves, sorted(set(moves)))
        self.assertLessEqual(set(moves), set(all_moves(given)))
        self.assertTrue(all(count >= 1 for _, _, count in counts), counts)
        self.assertEqual(total(counts), size, (given, source, target))
        self.assertEqual(net_effect(counts, len(source)),
                         [after - before for before, after in zip(source, target)])
        self.assertIs(are_move_counts(given, source, target, counts), True)

    def assert_all_sizes(self, given, source, target, sizes):
        least, most = min(sizes), max(sizes)
        self.assertEqual(set(sizes), set(range(least, most + 1)))
        for size in sizes:
            self.assert_connects(given, source, target, size)
        for size in (least - 1, most + 1, -HUGE, HUGE):
            self.assert_error(NoSuchSize, {"size": size}, move_counts, given, source, target,
                              size=size)
        fewest = move_counts(given, source, target)
        self.assertEqual(total(fewest), least)
        self.assertIs(are_move_counts(given, source, target, fewest), True)

    def test_examples(self):
        self.assertEqual(move_counts(well, EMPTY, TWO, size=6), SIX_OF_TWO)
        self.assert_error(NoSuchSize, {"size": 7}, move_counts, well, EMPTY, TWO, size=7)

    def test_exactly_the_sizes_that_a_search_finds(self):
        for given in SMALL_WELLS:
            for source in all_states(given):
                for target, sizes in sizes_from(given, source).items():
                    self.assert_all_sizes(given, source, target, sizes)

    def test_the_minimum_without_a_size(self):
        for counts in (move_counts(well, EMPTY, TWO), move_counts(well, EMPTY, TWO, size=None)):
            self.assertEqual(total(counts), 4)
            self.assertIs(are_move_counts(well, EMPTY, TWO, counts), True)

    def test_one_less_than_the_minimum_and_one_more_than_the_maximum(self):
        for size in (4, 5, 6):
            self.assert_connects(well, EMPTY, TWO, size)
        for size in (3, 7, 0, -1, -4, BIG, -BIG):
            self.assert_error(NoSuchSize, {"size": size}, move_counts, well, EMPTY, TWO,
                              size=size)
        self.assertEqual(NoSuchSize.__bases__, (LookupError,))

    def test_a_state_and_itself(self):
        for state in all_states(well):
            self.assertEqual(move_counts(well, state, state), [])
            self.assertEqual(move_counts(well, state, state, size=0), [])
            for size in (-1, 1):
                self.assert_error(NoSuchSize, {"size": size}, move_counts, well, state, state,
                                  size=size)

    def test_one_group(self):
        self.assertEqual(move_counts(ONE_GROUP, (0,), (1,)), [(0, -1, 1)])
        self.assertEqual(move_counts((5, ((5, 9),)), (2,), (9,), size=7), [(0, -1, 7)])
        self.assert_error(NoSuchSize, {"size": 6}, move_counts, (5, ((5, 9),)), (2,), (9,),
                          size=6)

    def test_large_groups(self):
        least, most = 12 * BIG, 78 * BIG
        for size in (least, least + 1, least + BIG, least + BIG + 3, 40 * BIG + 7, most - 1, most):
            self.assert_connects(LARGE_WELL, LARGE_EMPTY, LARGE_FULL, size)
        for size in (least - 1, most + 1):
            self.assert_error(NoSuchSize, {"size": size}, move_counts, LARGE_WELL, LARGE_EMPTY,
                              LARGE_FULL, size=size)
        narrow = (3, LARGE_WELL[1])
        source, target = (BIG,) * 6 + (0,) * 6, (0,) * 6 + (BIG,) * 6
        least, most = min_moves(narrow, source, target), max_moves(narrow, source, target)
        self.assertEqual((least, most), (12 * BIG, 36 * BIG))
        for size in (least, least + 1, 2 * least + 5, most - 1, most):
            self.assert_connects(narrow, source, target, size)

    def test_lists_and_names(self):
        result = self.assert_unchanged(move_counts, WELL_OF_LISTS, list(EMPTY), list(TWO), size=6)
        self.assertEqual(result, SIX_OF_TWO)
        self.assert_lists(result)
        self.assertEqual(move_counts(size=6, target=TWO, source=EMPTY, well=well), SIX_OF_TWO)
        self.assertEqual(total(move_counts(target=TWO, source=EMPTY, well=well)), 4)

    def test_the_size_is_passed_by_name_only(self):
        self.assertRaises(TypeError, move_counts, well, EMPTY, TWO, 6)

    def test_the_same_again_also_after_a_change_of_the_result(self):
        for size in (None, 4, 5, 6):
            first = move_counts(well, EMPTY, TWO, size=size)
            kept = list(first)
            first.clear()
            self.assertEqual(move_counts(well, EMPTY, TWO, size=size), kept)


class UnreachableTest(ErrorCase):

    def assert_unreachable(self, reason, given, source, target):
        fields = {"reason": reason}
        self.assert_error(Unreachable, fields, min_moves, given, source, target)
        for size in (None, 0, 1, -1, 7, HUGE, -HUGE):
            self.assert_error(Unreachable, fields, move_counts, given, source, target, size=size)

    def test_fewer_and_more(self):
        self.assert_unreachable(("more", 3), well, EMPTY, (0, 0, 0, 1))
        self.assert_unreachable(("fewer", 2), well, (0, 0, 1, 0), (2, 1, 0, 0))
        self.assert_unreachable(("fewer", 0), ONE_GROUP, (1,), (0,))
        self.assert_unreachable(("more", 0), NO_MOVES, (0, 1, 0), (1, 0, 0))
        self.assertEqual(Unreachable.__bases__, (ValueError,))

    def test_each_pair_of_states(self):
        for given in SMALL_WELLS[:9]:
            for source, target in all_pairs(given):
                if target not in reachable_from(given, source):
                    reason = obstruction(given, source, target)
                    self.assert_unreachable(reason, given, source, target)

    def test_large_groups_and_lists(self):
        self.assert_unreachable(("fewer", 0), LARGE_WELL, LARGE_FULL, [BIG] * 11 + [BIG - 1])
        self.assert_unreachable(("more", 3), WELL_OF_LISTS, [0, 0, 0, 0], [0, 0, 0, 1])


class AreMoveCountsTest(ErrorCase):

    def assert_none(self, values, source=EMPTY, target=TWO):
        for value in values:
            self.assertIs(are_move_counts(well, source, target, value), False, value)

    def test_examples(self):
        self.assertIs(are_move_counts(well, EMPTY, TWO, [(0, -1, 2), (2, 0, 2)]), True)
        self.assertIs(are_move_counts(well, EMPTY, TWO, SIX_OF_TWO), True)

    def test_any_total(self):
        for value in ([(1, -1, 2), (2, 1, 2)], [(0, -1, 1), (1, -1, 1), (2, 0, 1), (2, 1, 1)],
                      [(0, -1, 2), (1, 0, 1), (2, 0, 1), (2, 1, 1)]):
            self.assertIs(are_move_counts(well, EMPTY, TWO, value), True)

    def test_all_small_values(self):
        counts = [[(down, up, count) for count in (1, 2)] for down, up in all_moves(well)]
        values = [[part for part in parts if part]
                  for parts in itertools.product(*[[None] + some for some in counts])]
        for source, target in (EMPTY, TWO), ((1, 0, 0, 0), (0, 1, 1, 0)), (FULL, FULL):
            right = [value for value in values if are_move_counts(well, source, target, value)]
            expected = [value for value in all_counts(well, source, target)
                        if all(count <= 2 for _, _, count in value)]
            self.assertEqual(sorted(right), sorted(expected))

    def test_all_that_connect(self):
        for given in SMALL_WELLS:
            for source in all_states(given)[:3]:
                for target, sizes in sizes_from(given, source).items():
                    found = all_counts(given, source, target)
                    self.assertEqual({total(value) for value in found}, sizes)
                    for value in found:
                        self.assertIs(are_move_counts(given, source, target, value), True)

    def test_another_target_or_source(self):
        value = [(0, -1, 2), (2, 0, 2)]
        for source, target in all_pairs(well):
            expected = [after - before for before, after in zip(source, target)] == [0, 0, 2, 0]
            self.assertIs(are_move_counts(well, source, target, value), expected)

    def test_the_empty_list_connects_a_state_to_itself_only(self):
        for source, target in all_pairs(well):
            self.assertIs(are_move_counts(well, source, target, []), source == target)

    def test_unreachable_is_no_error(self):
        self.assertIs(are_move_counts(well, EMPTY, (0, 0, 0, 1), []), False)
        self.assertIs(are_move_counts(well, FULL, EMPTY, [(0, -1, 2)]), False)
        self.assertIs(are_move_counts(well, EMPTY, (0, 0, 0, 1), [(3, -1, 1)]), False)
        self.assertIs(are_move_counts(well, (0, 0, 1, 0), (0, 1, 0, 0), [(1, 2, 1)]), False)

    def test_other_kinds(self):
        self.assert_none(OTHER_KINDS + [[]])
        self.assert_none([value for value in OTHER_KINDS if value != []], FULL, FULL)
        self.assert_none([tuple(SIX_OF_TWO), [list(part) for part in SIX_OF_TWO],
                          [list(SIX_OF_TWO[0])] + SIX_OF_TWO[1:], [SIX_OF_TWO], str(SIX_OF_TWO),
                          SIX_OF_TWO + [None], SIX_OF_TWO + [()], SIX_OF_TWO + [(2, 1)]])

    def test_booleans_and_strings_in_place_of_integers(self):
        source, target = (1, 0, 0, 0), (0, 1, 0, 0)
        self.assertIs(are_move_counts(well, source, target, [(1, 0, 1)]), True)
        self.assert_none([[(True, 0, 1)], [(1, False, 1)], [(1, 0, True)], [("1", 0, 1)],
                          [(1, "0", 1)], [(1, 0, "1")], [(None, 0, 1)], [(1, None, 1)],
                          [(1, 0, None)], [((1,), 0, 1)], [(1, [0], 1)], [(1, 0, [1])]],
                         source, target)

    def test_missing_repeated_and_exchanged_parts(self):
        self.assert_none([SIX_OF_TWO[1:], SIX_OF_TWO[:-1], SIX_OF_TWO + SIX_OF_TWO[-1:],
                          SIX_OF_TWO[::-1], [SIX_OF_TWO[1], SIX_OF_TWO[0], SIX_OF_TWO[2]],
                          [(0, -1, 1), (0, -1, 1), (2, 0, 2)], [(0, -1, 2), (2, 0, 1), (2, 0, 1)],
                          [(-1, 0, 2), (2, 0, 2)], [(2, 0, 2), (0, -1, 2)],
                          [(0, -1), (2, 0)], [(0, -1, 2, 0), (2, 0, 2, 0)], [(0, -1, 2), (2, 0, 3)],
                          [(0, -1, 4), (2, 0, 4)]])

    def test_one_move_in_two_triples(self):
        given = (5, ((5, 9),))
        self.assertIs(are_move_counts(given, (0,), (3,), [(0, -1, 3)]), True)
        for value in ([(0, -1, 1), (0, -1, 2)], [(0, -1, 2), (0, -1, 1)], [(0, -1, 1)] * 3):
            self.assertIs(are_move_counts(given, (0,), (3,), value), False)

    def test_counts_below_one(self):
        self.assert_none([[(0, -1, 2), (1, 0, 0), (2, 0, 2)], [(0, -1, 2), (1, -1, 0), (2, 0, 2)],
                          [(0, -1, 1), (1, -1, 1), (1, 0, -1), (2, 0, 2)]])
        self.assert_none([[(0, -1, 0)], [(0, -1, 0), (1, -1, 0)]], FULL, FULL)
        self.assert_none([[(0, -1, -1)]], (1, 0, 0, 0), EMPTY)
        self.assert_none([[(0, -1, -1), (1, -1, 1), (1, 0, -1)]], EMPTY, EMPTY)

    def test_pairs_that_are_no_moves(self):
        self.assert_none([[(2, -1, 2)], [(3, -1, 1)], [(0, 0, 1)], [(2, -5, 2)], [(-2, -1, 2)]])
        self.assert_none([[(0, 0, 1)], [(-1, -1, 1)], [(4, 4, 1)], [(0, 1, 1), (1, 0, 1)]],
                         FULL, FULL)
        self.assert_none([[(0, -1, 1), (2, -1, 2)], [(3, 2, 1)], [(BIG, -1, 1)], [(0, -HUGE, 1)],
                          [(HUGE, -1, HUGE)]], EMPTY, (0, 0, 1, 1))

    def test_large_counts(self):
        value = [(group, -1, BIG) for group in range(12)]
        self.assertIs(are_move_counts(LARGE_WELL, LARGE_EMPTY, LARGE_FULL, value), True)
        value[3] = (3, -1, BIG - 1)
        self.assertIs(are_move_counts(LARGE_WELL, LARGE_EMPTY, LARGE_FULL, value), False)
        self.assertIs(are_move_counts(well, EMPTY, TWO, [(0, -1, HUGE), (2, 0, HUGE)]), False)

    def test_seventy_eight_and_eighty_triples(self):
        for groups, many in (12, 78), (13, 80):
            given = (BIG, tuple((100 + k, BIG) for k in range(groups)))
            value = [(down, up, 1) for down, up in all_moves(given)[:many]]
            self.assertEqual(len(value), many)
            source = (90,) * groups
            target = tuple(90 + change for change in net_effect(value, groups))
            self.assertIs(are_move_counts(given, source, target, value), True)
            self.assertIs(are_move_counts(given, source, target, value[1:]), False)
            self.assertIs(are_move_counts(given, source, target, value[:-1]), False)
            self.assertIs(are_move_counts(given, source, target, value + value), False)
            longer = value + [value[-1]] * (80 - many)
            self.assertIs(are_move_counts(given, source, target, longer), many == 80)

    def test_lists_and_names(self):
        value = [(0, -1, 2), (2, 0, 2)]
        result = self.assert_unchanged(are_move_counts, WELL_OF_LISTS, list(EMPTY), list(TWO),
                                       value)
        self.assertIs(result, True)
        self.assertIs(are_move_counts(value=value, target=TWO, source=EMPTY, well=well), True)


if __name__ == "__main__":
    unittest.main()
