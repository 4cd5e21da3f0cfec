"""sequences.py, promise [12], with [1] (c), (d) and the conventions of [2], [3] and [9]."""

import collections
import unittest

from checks import OTHER_KINDS, ErrorCase
from samples import (BIG, HUGE, LARGE_WELL, NO_MOVES, ONE_GROUP, SMALL_WELLS, WELL_OF_LISTS,
                     all_pairs, all_states, well)
from search import after_move, all_counts, legal_pairs, reachable_from, sizes_from
from wellfolk.covers import are_move_counts, move_counts
from wellfolk.errors import NoSuchSize, TooLong, Unreachable
from wellfolk.moves import all_moves
from wellfolk.reach import obstruction
from wellfolk.sequences import count_moves, is_move_sequence, move_sequence, order_moves

EMPTY = (0, 0, 0, 0)
FULL = (2, 1, 2, 1)
TWO = (0, 0, 2, 0)
OVER_ONE = [(1, -1), (2, 1), (1, -1), (2, 1)]
THIRTEEN = (BIG, tuple((100 + k, 200) for k in range(13)))


def walk(given, state, moves):
    """Execute MOVEs one by one, and return the STATE at the end, or None."""
    for move in moves:
        if move not in legal_pairs(given, state):
            return None
        state = after_move(state, move)
    return state


def all_sequences(given, state, size):
    """Return all sequences of legal MOVEs from a STATE, each with its end."""
    if size == 0:
        return [([], state)]
    return [([move] + moves, end) for move in legal_pairs(given, state)
            for moves, end in all_sequences(given, after_move(state, move), size - 1)]


class CountMovesTest(ErrorCase):

    def test_example(self):
        self.assertEqual(count_moves([(0, -1), (2, 0), (0, -1)]), [(0, -1, 2), (2, 0, 1)])

    def test_none_and_one(self):
        self.assertEqual(count_moves([]), [])
        self.assertEqual(count_moves(()), [])
        self.assertEqual(count_moves([(11, 10)]), [(11, 10, 1)])

    def test_ascending_whatever_the_order(self):
        moves = [(2, 1), (10, 9), (0, -1), (2, -1), (2, 1), (1, 0), (10, -1)]
        expected = [(0, -1, 1), (1, 0, 1), (2, -1, 1), (2, 1, 2), (10, -1, 1), (10, 9, 1)]
        self.assertEqual(count_moves(moves), expected)
        self.assertEqual(count_moves(moves[::-1]), expected)

    def test_three_hundred_moves(self):
        self.assertEqual(count_moves([(0, -1), (1, 0), (1, -1)] * 100),
                         [(0, -1, 100), (1, -1, 100), (1, 0, 100)])

    def test_the_counts_of_each_sequence_connect(self):
        for size in range(4):
            for moves, end in all_sequences(well, EMPTY, size):
                self.assertIs(are_move_counts(well, EMPTY, end, count_moves(moves)), True)

    def test_lists_and_names(self):
        moves = [[0, -1], (2, 0), [0, -1]]
        result = self.assert_unchanged(count_moves, moves)
        self.assertEqual(result, [(0, -1, 2), (2, 0, 1)])
        self.assert_lists(result)
        result.clear()
        self.assertEqual(count_moves(moves=tuple(moves)), [(0, -1, 2), (2, 0, 1)])


class OrderMovesTest(ErrorCase):

    def assert_order(self, given, state, counts):
        moves = order_moves(given, state, counts)
        self.assert_lists(moves)
        expected = {(down, up): count for down, up, count in counts}
        self.assertEqual(collections.Counter(moves), expected)
        self.assertIsNotNone(walk(given, state, moves), (given, state, counts))
        return moves

    def test_example(self):
        self.assertEqual(order_moves(well, EMPTY, [(1, -1, 2), (2, 1, 2)]), OVER_ONE)

    def test_all_counts(self):
        for given in SMALL_WELLS:
            for source in all_states(given)[:5]:
                for target in reachable_from(given, source):
                    for counts in all_counts(given, source, target):
                        moves = self.assert_order(given, source, counts)
                        self.assertEqual(walk(given, source, moves), target)

    def test_moves_that_block_one_another_at_first(self):
        # Each group is full but for the last, so the heaviest descend first ..
        given = (1, ((1, 1), (2, 1), (3, 1), (4, 1)))
        counts = [(0, -1, 1), (1, 0, 1), (2, 1, 1), (3, 2, 1)]
        self.assertEqual(order_moves(given, (1, 1, 1, 0), counts),
                         [(3, 2), (2, 1), (1, 0), (0, -1)])
        # .. or each is empty, so the lightest do.
        self.assertEqual(order_moves(given, (0, 0, 0, 0), counts),
                         [(0, -1), (1, 0), (2, 1), (3, 2)])
        counts = [(0, -1, 2), (1, 0, 2), (2, 1, 2), (3, 2, 1)]
        self.assert_order(given, (0, 0, 0, 0), counts)
        self.assert_order((4, given[1]), (0, 1, 0, 0), [(0, -1, 2), (2, 0, 1), (3, 0, 1)])
        self.assert_order((4, given[1]), (1, 1, 0, 0),
                          [(0, -1, 1), (1, 0, 1), (2, 1, 1), (3, 1, 1)])

    def test_none(self):
        for state in all_states(well):
            self.assertEqual(order_moves(well, state, []), [])

    def test_three_hundred_moves_and_one_more(self):
        given = (5, ((5, 400), (9, 400)))
        self.assert_order(given, (0, 0), [(0, -1, 300)])
        self.assert_order(given, (0, 0), [(0, -1, 150), (1, 0, 150)])
        self.assert_error(TooLong, {"size": 301}, order_moves, given, (0, 0), [(0, -1, 301)])
        self.assert_error(TooLong, {"size": 301}, order_moves, given, (0, 0),
                          [(0, -1, 151), (1, 0, 150)])
        self.assertEqual(TooLong.__bases__, (OverflowError,))

    def test_large_counts(self):
        self.assert_error(TooLong, {"size": 12 * BIG}, order_moves, LARGE_WELL, (0,) * 12,
                          [(group, -1, BIG) for group in range(12)])

    def test_seventy_eight_and_eighty_triples(self):
        counts = [move + (1,) for move in all_moves(LARGE_WELL)]
        self.assertEqual(len(counts), 78)
        self.assert_order(LARGE_WELL, (BIG - 100,) * 12, counts)
        counts = [move + (1,) for move in all_moves(THIRTEEN)[:80]]
        self.assert_order(THIRTEEN, (100,) * 13, counts)
        counts = [move + (3,) for move in all_moves(THIRTEEN)[:80]]
        self.assert_order(THIRTEEN, (100,) * 13, counts + [(12, 11, 60)])

    def test_twelve_groups_of_large_size(self):
        counts = [(group, group - 1, 25) for group in range(12)]
        self.assert_order(LARGE_WELL, (0,) * 12, counts)
        self.assert_order(LARGE_WELL, (BIG,) * 11 + (0,), counts)

    def test_lists_and_names(self):
        counts = [[1, -1, 2], (2, 1, 2)]
        result = self.assert_unchanged(order_moves, WELL_OF_LISTS, list(EMPTY), counts)
        self.assertEqual(result, OVER_ONE)
        self.assert_lists(result)
        self.assertEqual(order_moves(counts=tuple(counts), state=EMPTY, well=well), OVER_ONE)

    def test_the_same_again_also_after_a_change_of_the_result(self):
        counts = [(0, -1, 2), (1, -1, 1), (1, 0, 1), (2, 1, 2)]
        first = order_moves(well, EMPTY, counts)
        kept = list(first)
        first.clear()
        self.assertEqual(order_moves(well, EMPTY, counts), kept)


class MoveSequenceTest(ErrorCase):

    def assert_leads(self, given, source, target, size, moves):
        self.assert_lists(moves)
        self.assertEqual(len(moves), size)
        self.assertEqual(walk(given, source, moves), target, (given, source, target))
        self.assertIs(is_move_sequence(given, source, target, moves), True)

    def test_examples(self):
        self.assertEqual(move_sequence(well, (0, 0, 1, 0), TWO, size=3), [(0, -1), (1, 0), (2, 1)])
        self.assert_error(TooLong, {"size": 301}, move_sequence, (5, ((5, 301),)), (0,), (301,))

    def test_exactly_the_sizes_that_a_search_finds(self):
        for given in SMALL_WELLS:
            for source in all_states(given):
                for target, sizes in sizes_from(given, source).items():
                    for size in sizes:
                        moves = move_sequence(given, source, target, size=size)
                        self.assert_leads(given, source, target, size, moves)
                    self.assert_leads(given, source, target, min(sizes),
                                      move_sequence(given, source, target))
                    for size in (min(sizes) - 1, max(sizes) + 1):
                        self.assert_error(NoSuchSize, {"size": size}, move_sequence, given,
                                          source, target, size=size)

    def test_a_state_and_itself(self):
        for state in all_states(well):
            self.assertEqual(move_sequence(well, state, state), [])
            self.assertEqual(move_sequence(well, state, state, size=0), [])

    def test_three_hundred_moves_and_one_more(self):
        given = (5, ((5, 301),))
        moves = move_sequence(given, (0,), (300,))
        self.assert_leads(given, (0,), (300,), 300, moves)
        self.assert_leads(given, (1,), (301,), 300, move_sequence(given, (1,), (301,), size=300))
        self.assert_error(TooLong, {"size": 301}, move_sequence, given, (0,), (301,), size=301)
        given = (3, ((2, 150), (3, 151), (5, 151)))
        self.assert_leads(given, (0, 0, 0), (0, 0, 150), 300,
                          move_sequence(given, (0, 0, 0), (0, 0, 150)))
        self.assert_error(TooLong, {"size": 301}, move_sequence, given, (0, 0, 0), (0, 0, 150),
                          size=301)
        self.assert_error(TooLong, {"size": 302}, move_sequence, given, (0, 0, 0), (0, 0, 151))

    def test_no_such_size_comes_before_too_long(self):
        given = (5, ((5, 301),))
        for size in (300, 302, HUGE, -1):
            self.assert_error(NoSuchSize, {"size": size}, move_sequence, given, (0,), (301,),
                              size=size)

    def test_unreachable_comes_before_both(self):
        for given in SMALL_WELLS[:9]:
            for source, target in all_pairs(given):
                if target not in reachable_from(given, source):
                    fields = {"reason": obstruction(given, source, target)}
                    for size in (None, -1, 0, 301, HUGE):
                        self.assert_error(Unreachable, fields, move_sequence, given, source,
                                          target, size=size)
        self.assert_error(Unreachable, {"reason": ("fewer", 0)}, move_sequence, LARGE_WELL,
                          (BIG,) * 12, (0,) * 12, size=12 * BIG)
        self.assert_error(Unreachable, {"reason": ("more", 2)}, move_sequence, NO_MOVES,
                          (0, 0, 0), (0, 0, 1))

    def test_large_groups(self):
        source = (BIG,) * 6 + (0,) * 6
        target = (BIG - 20,) * 6 + (20,) * 6
        for size in (120, 121, 250, 300):
            moves = move_sequence(LARGE_WELL, source, target, size=size)
            self.assert_leads(LARGE_WELL, source, target, size, moves)
        self.assert_error(NoSuchSize, {"size": 119}, move_sequence, LARGE_WELL, source, target,
                          size=119)
        self.assert_error(TooLong, {"size": 301}, move_sequence, LARGE_WELL, source, target,
                          size=301)
        self.assert_error(TooLong, {"size": 12 * BIG}, move_sequence, LARGE_WELL, (0,) * 12,
                          (BIG,) * 12)

    def test_lists_and_names(self):
        moves = self.assert_unchanged(move_sequence, WELL_OF_LISTS, [0, 0, 1, 0], list(TWO),
                                      size=3)
        self.assertEqual(moves, [(0, -1), (1, 0), (2, 1)])
        self.assert_lists(moves)
        moves = move_sequence(size=3, target=TWO, source=(0, 0, 1, 0), well=well)
        self.assertEqual(moves, [(0, -1), (1, 0), (2, 1)])
        self.assertRaises(TypeError, move_sequence, well, (0, 0, 1, 0), TWO, 3)
        self.assert_error(Unreachable, {"reason": ("more", 3)}, move_sequence, WELL_OF_LISTS,
                          [0, 0, 0, 0], [0, 0, 0, 1], size=1)

    def test_the_same_again_also_after_a_change_of_the_result(self):
        for size in (None, 4, 5, 6):
            first = move_sequence(well, EMPTY, TWO, size=size)
            kept = list(first)
            first.clear()
            self.assertEqual(move_sequence(well, EMPTY, TWO, size=size), kept)


class IsMoveSequenceTest(ErrorCase):

    def assert_none(self, values, source=EMPTY, target=TWO):
        for value in values:
            self.assertIs(is_move_sequence(well, source, target, value), False, value)

    def test_example(self):
        self.assertIs(is_move_sequence(well, EMPTY, (0, 1, 0, 0), [(0, -1), (1, 0)]), True)

    def test_all_short_lists_of_moves(self):
        lists = [[]]
        for _ in range(3):
            lists += [value + [move] for value in lists for move in all_moves(well)]
        for source in (EMPTY, (1, 0, 1, 0), (2, 1, 0, 1)):
            for value in lists:
                end = walk(well, source, value)
                for target in (EMPTY, (0, 1, 0, 0), (1, 0, 1, 0), (1, 1, 1, 0), (2, 1, 1, 1), end):
                    if target is not None:
                        self.assertIs(is_move_sequence(well, source, target, value),
                                      target == end, (source, target, value))

    def test_the_empty_list_leads_from_a_state_to_itself_only(self):
        for source, target in all_pairs(well):
            self.assertIs(is_move_sequence(well, source, target, []), source == target)

    def test_unreachable_targets(self):
        self.assert_none([[], [(3, -1)], [(0, -1)]], EMPTY, (0, 0, 0, 1))
        self.assert_none([[], [(0, -1)]], FULL, EMPTY)

    def test_more_moves_than_a_sequence_may_have(self):
        given = (5, ((5, 400),))
        self.assertIs(is_move_sequence(given, (0,), (301,), [(0, -1)] * 301), True)
        self.assertIs(is_move_sequence(given, (0,), (400,), [(0, -1)] * 400), True)
        self.assertIs(is_move_sequence(given, (0,), (400,), [(0, -1)] * 401), False)
        self.assertIs(is_move_sequence(given, (0,), (400,), [(0, -1)] * 399), False)

    def test_other_kinds(self):
        self.assert_none(OTHER_KINDS)
        self.assert_none(OTHER_KINDS, EMPTY, EMPTY)
        self.assert_none([tuple(OVER_ONE), [list(move) for move in OVER_ONE], str(OVER_ONE),
                          [OVER_ONE], OVER_ONE[:3] + [[2, 1]], OVER_ONE + [None],
                          OVER_ONE + [()], OVER_ONE + [""], {}])

    def test_booleans_and_strings_in_place_of_integers(self):
        source, target = (1, 0, 0, 0), (0, 1, 0, 0)
        self.assertIs(is_move_sequence(well, source, target, [(1, 0)]), True)
        self.assert_none([[(True, 0)], [(1, False)], [(True, False)], [("1", 0)], [(1, "0")],
                          [(None, 0)], [(1, None)], [((1,), 0)], [(1, [0])]], source, target)

    def test_missing_repeated_and_exchanged_parts(self):
        self.assertIs(is_move_sequence(well, EMPTY, TWO, OVER_ONE), True)
        self.assert_none([OVER_ONE[1:], OVER_ONE[:-1], OVER_ONE * 2, OVER_ONE[::-1],
                          [OVER_ONE[0]] * 2 + [OVER_ONE[1]] * 2, OVER_ONE + [(0, -1)],
                          [(down,) for down, _ in OVER_ONE], [move + (1,) for move in OVER_ONE],
                          [(up, down) for down, up in OVER_ONE]])

    def test_pairs_that_are_no_moves(self):
        self.assert_none([[(2, -1)] * 2, [(3, -1)], [(0, 0)], [(-1, -1)], [(2, -5)], [(-2, -1)],
                          [(BIG, -1)], [(2, -HUGE)], [(HUGE, 0)], OVER_ONE + [(0, 0)],
                          OVER_ONE + [(-1, -1)], OVER_ONE + [(4, 4)]])

    def test_lists_and_names(self):
        self.assertIs(self.assert_unchanged(is_move_sequence, WELL_OF_LISTS, list(EMPTY),
                                            list(TWO), OVER_ONE), True)
        self.assertIs(is_move_sequence(value=OVER_ONE, target=list(TWO), source=EMPTY, well=well),
                      True)

    def test_the_counts_of_a_sequence(self):
        for size in (4, 5, 6):
            moves = move_sequence(well, EMPTY, TWO, size=size)
            counts = count_moves(moves)
            self.assertIs(are_move_counts(well, EMPTY, TWO, counts), True)
            self.assertEqual(sum(count for _, _, count in counts), size)
            self.assertEqual(counts, move_counts(well, EMPTY, TWO, size=size))

    def test_one_group(self):
        self.assertIs(is_move_sequence(ONE_GROUP, (0,), (1,), [(0, -1)]), True)
        self.assertIs(is_move_sequence(ONE_GROUP, (1,), (1,), [(0, -1)]), False)


if __name__ == "__main__":
    unittest.main()
