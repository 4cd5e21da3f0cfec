"""counting.py, promise [13], with [1] (g) and the conventions of [2] and [3]."""

import collections
import functools
import math
import unittest

from checks import ErrorCase
from samples import (BIG, HUGE, LARGE_WELL, NO_MOVES, ONE_GROUP, SMALL_WELLS, WELL_OF_LISTS,
                     all_pairs, all_states, well)
from search import after_move, legal_pairs, reachable_from, sizes_from
from wellfolk.counting import (count_sequences, count_states, sequence_at, sequence_index,
                               state_at, state_index)
from wellfolk.crossing import max_moves
from wellfolk.errors import BadIndex, IllegalMove, TooMany, Unreachable
from wellfolk.reach import obstruction, terminal_state

EMPTY = (0, 0, 0, 0)
FULL = (2, 1, 2, 1)
TWO = (0, 0, 2, 0)
OVER_ONE = [(1, -1), (2, 1), (1, -1), (2, 1)]
# 200 people and one more, 9 people and one more.
MANY = (12, tuple((k + 1, 16 + (k < 8)) for k in range(12)))
TOO_MANY = (12, MANY[1][:-1] + ((12, 17),))
NINE = (9, tuple((k + 1, 1) for k in range(9)))
TEN = (10, tuple((k + 1, 1) for k in range(10)))
# Wells in which all sequences together are few enough to be listed.
TINY_WELLS = [given for given in SMALL_WELLS
              if max_moves(given, (0,) * len(given[1]),
                           terminal_state(given, (0,) * len(given[1]))) <= 7]


@functools.lru_cache(maxsize=None)
def sequences_by_hand(given, source):
    """Return, for each pair of a STATE and a length, the ascending list of all sequences."""
    found = collections.defaultdict(list)
    waiting = [((), source)]
    while waiting:
        moves, state = waiting.pop()
        found[(state, len(moves))].append(list(moves))
        waiting.extend((moves + (move,), after_move(state, move))
                       for move in legal_pairs(given, state))
    return {key: sorted(rows) for key, rows in found.items()}


def numbers_by_hand(given, source, size):
    """Return for each STATE the number of sequences of so many MOVEs to it."""
    numbers = {source: 1}
    for _ in range(size):
        later = collections.Counter()
        for state, number in numbers.items():
            for move in legal_pairs(given, state):
                later[after_move(state, move)] += number
        numbers = later
    return numbers


class CountStatesTest(ErrorCase):

    def test_example(self):
        self.assertEqual(count_states(well, TWO), 6)

    def test_what_an_enumeration_finds(self):
        for given in SMALL_WELLS:
            for state in all_states(given):
                self.assertEqual(count_states(given, state), len(reachable_from(given, state)))

    def test_only_itself(self):
        for state in all_states(NO_MOVES):
            self.assertEqual(count_states(NO_MOVES, state), 1)
        self.assertEqual(count_states(well, FULL), 1)
        self.assertEqual(count_states(ONE_GROUP, (1,)), 1)

    def test_two_hundred_people(self):
        self.assertEqual(count_states(MANY, (0,) * 12), 18 ** 8 * 17 ** 4)
        self.assertEqual(count_states(MANY, tuple(size for _, size in MANY[1])), 1)
        self.assertEqual(count_states((1, ((1, 200),)), (7,)), 194)
        # Not grounded: ways to choose who of 100 people of the one group has gone up.
        self.assertEqual(count_states((1, ((8, 100), (9, 100))), (100, 0)), 101)
        self.assertEqual(count_states((1, ((2, 66), (3, 66), (4, 66))), (66, 0, 0)),
                         math.comb(68, 2))

    def test_too_many_people(self):
        self.assert_error(TooMany, {"size": 201}, count_states, TOO_MANY, (0,) * 12)
        self.assert_error(TooMany, {"size": 201}, count_states, (1, ((5, 201),)), (0,))
        self.assert_error(TooMany, {"size": 12 * BIG}, count_states, LARGE_WELL, (0,) * 12)
        self.assertEqual(TooMany.__bases__, (OverflowError,))

    def test_lists_and_names(self):
        self.assertEqual(self.assert_unchanged(count_states, WELL_OF_LISTS, list(TWO)), 6)
        self.assertEqual(count_states(state=list(TWO), well=well), 6)


class StateAtTest(ErrorCase):

    def test_examples(self):
        self.assertEqual(state_at(well, TWO, 1), (0, 1, 2, 0))
        self.assert_error(BadIndex, {"index": 6}, state_at, well, TWO, 6)

    def test_what_an_enumeration_finds(self):
        for given in SMALL_WELLS:
            for state in all_states(given):
                for index, target in enumerate(sorted(reachable_from(given, state))):
                    self.assertEqual(state_at(given, state, index), target)
                    self.assertEqual(state_index(given, state, target), index)

    def test_indices_below_and_above(self):
        for given in SMALL_WELLS:
            for state in all_states(given):
                many = len(reachable_from(given, state))
                for index in (-1, -many, many, many + 1, HUGE, -HUGE):
                    self.assert_error(BadIndex, {"index": index}, state_at, given, state, index)
        self.assertEqual(BadIndex.__bases__, (LookupError,))

    def test_two_hundred_people(self):
        many = 18 ** 8 * 17 ** 4
        self.assertEqual(state_at(MANY, (0,) * 12, 0), (0,) * 12)
        self.assertEqual(state_at(MANY, (0,) * 12, many - 1), tuple(size for _, size in MANY[1]))
        for index in (1, 16, 17, 18, many // 2, many // 3, many - 2):
            state = state_at(MANY, (0,) * 12, index)
            self.assertEqual(state_index(MANY, (0,) * 12, state), index)
        self.assert_error(BadIndex, {"index": many}, state_at, MANY, (0,) * 12, many)
        source = (9, 0, 3, 0, 0, 7, 1, 0, 0, 16, 0, 0)
        many = count_states(MANY, source)
        for index in (0, 1, many // 7, many // 2, many - 1):
            state = state_at(MANY, source, index)
            self.assertIsNone(obstruction(MANY, source, state))
            self.assertEqual(state_index(MANY, source, state), index)

    def test_too_many_people_come_before_a_bad_index(self):
        for index in (-1, 0, HUGE):
            self.assert_error(TooMany, {"size": 201}, state_at, TOO_MANY, (0,) * 12, index)

    def test_lists_and_names(self):
        result = self.assert_unchanged(state_at, WELL_OF_LISTS, list(TWO), 1)
        self.assertEqual(result, (0, 1, 2, 0))
        self.assertEqual([type(part) for part in (result,) + result], [tuple] + [int] * 4)
        self.assertEqual(state_at(index=1, state=list(TWO), well=well), (0, 1, 2, 0))


class StateIndexTest(ErrorCase):

    def test_example(self):
        self.assertEqual(state_index(well, TWO, (1, 0, 2, 0)), 2)

    def test_unreachable(self):
        for given in SMALL_WELLS:
            for state, target in all_pairs(given):
                if target not in reachable_from(given, state):
                    fields = {"reason": obstruction(given, state, target)}
                    self.assert_error(Unreachable, fields, state_index, given, state, target)

    def test_too_many_people_come_before_unreachable(self):
        self.assert_error(TooMany, {"size": 201}, state_index, TOO_MANY, (1,) * 12, (0,) * 12)
        self.assert_error(TooMany, {"size": 201}, state_index, TOO_MANY, (0,) * 12, (0,) * 12)
        self.assert_error(Unreachable, {"reason": ("fewer", 0)}, state_index, MANY, (1,) * 12,
                          (0,) * 12)

    def test_lists_and_names(self):
        result = self.assert_unchanged(state_index, WELL_OF_LISTS, list(TWO), [1, 0, 2, 0])
        self.assertEqual(result, 2)
        self.assertEqual(state_index(target=[1, 0, 2, 0], state=list(TWO), well=well), 2)


class CountSequencesTest(ErrorCase):

    def test_examples(self):
        self.assertEqual(count_sequences(well, EMPTY, TWO, 4), 9)
        self.assert_error(TooMany, {"size": 10}, count_sequences, (3, ((2, 10),)), (0,), (1,), 1)

    def test_what_an_enumeration_finds(self):
        self.assertGreaterEqual(len(TINY_WELLS), 8)
        for given in TINY_WELLS:
            for source in all_states(given):
                found = sequences_by_hand(given, source)
                for target in all_states(given):
                    for size in range(9):
                        self.assertEqual(count_sequences(given, source, target, size),
                                         len(found.get((target, size), [])))

    def test_larger_numbers(self):
        for given in SMALL_WELLS:
            source = all_states(given)[0]
            for size in (1, 3, 5, 8):
                numbers = numbers_by_hand(given, source, size)
                for target in all_states(given):
                    self.assertEqual(count_sequences(given, source, target, size),
                                     numbers.get(target, 0))

    def test_there_are_some_of_exactly_the_sizes_that_a_search_finds(self):
        for source in all_states(well)[::3]:
            for target in all_states(well):
                sizes = sizes_from(well, source).get(target, set())
                for size in range(-1, 12):
                    number = count_sequences(well, source, target, size)
                    self.assertEqual(number > 0, size in sizes)

    def test_none(self):
        for size in (-1, -HUGE, 3, 7, HUGE):
            self.assertEqual(count_sequences(well, EMPTY, TWO, size), 0)
        for size in (-1, 0, 1, 5, HUGE):
            self.assertEqual(count_sequences(well, EMPTY, (0, 0, 0, 1), size), 0)
            self.assertEqual(count_sequences(well, FULL, EMPTY, size), 0)

    def test_a_state_and_itself(self):
        for state in all_states(well):
            self.assertEqual([count_sequences(well, state, state, size) for size in (-1, 0, 1)],
                             [0, 1, 0])

    def test_nine_people(self):
        full = (1,) * 9
        numbers = numbers_by_hand(NINE, (0,) * 9, 9)
        self.assertEqual(count_sequences(NINE, (0,) * 9, full, 9), math.factorial(9))
        self.assertEqual(count_sequences(NINE, (0,) * 9, full, 9), numbers[full])
        numbers = numbers_by_hand(NINE, (0,) * 9, 30)
        self.assertEqual(count_sequences(NINE, (0,) * 9, full, 30), numbers[full])
        self.assertGreater(count_sequences(NINE, (0,) * 9, full, 45), 0)
        self.assertEqual(count_sequences(NINE, (0,) * 9, full, 46), 0)
        self.assertEqual(count_sequences((3, ((3, 9),)), (0,), (9,), 9), 1)

    def test_too_many_people(self):
        for size in (-1, 0, 10, HUGE):
            self.assert_error(TooMany, {"size": 10}, count_sequences, TEN, (0,) * 10, (1,) * 10,
                              size)
            self.assert_error(TooMany, {"size": 10}, count_sequences, TEN, (1,) * 10, (0,) * 10,
                              size)

    def test_lists_and_names(self):
        result = self.assert_unchanged(count_sequences, WELL_OF_LISTS, list(EMPTY), list(TWO), 4)
        self.assertEqual(result, 9)
        self.assertEqual(count_sequences(size=4, target=list(TWO), source=EMPTY, well=well), 9)


class SequenceAtTest(ErrorCase):

    def test_example(self):
        self.assertEqual(sequence_at(well, EMPTY, TWO, 4, 0), [(0, -1), (0, -1), (2, 0), (2, 0)])

    def test_what_an_enumeration_finds(self):
        for given in TINY_WELLS:
            for source in all_states(given)[::2]:
                for (target, size), rows in sequences_by_hand(given, source).items():
                    for index, moves in enumerate(rows):
                        found = sequence_at(given, source, target, size, index)
                        self.assertEqual(found, moves)
                        self.assertEqual(sequence_index(given, source, moves), index)
                    for index in (-1, -len(rows), len(rows), HUGE, -HUGE):
                        self.assert_error(BadIndex, {"index": index}, sequence_at, given, source,
                                          target, size, index)

    def test_each_of_four_moves(self):
        rows = [sequence_at(well, EMPTY, TWO, 4, index) for index in range(9)]
        self.assertEqual(rows, sorted(rows))
        self.assertEqual(len(set(map(tuple, rows))), 9)
        self.assertEqual(rows[8], OVER_ONE)
        self.assertEqual([sequence_index(well, EMPTY, moves) for moves in rows], list(range(9)))

    def test_no_sequence_at_all(self):
        for target, size in ((TWO, 3), (TWO, 7), (TWO, -1), (TWO, HUGE), ((0, 0, 0, 1), 1),
                             (EMPTY, 1)):
            for index in (0, -1, 1, HUGE):
                self.assert_error(BadIndex, {"index": index}, sequence_at, well, EMPTY, target,
                                  size, index)
        self.assert_error(BadIndex, {"index": 0}, sequence_at, well, FULL, EMPTY, 1, 0)

    def test_a_state_and_itself(self):
        for state in all_states(well):
            self.assertEqual(sequence_at(well, state, state, 0, 0), [])
            self.assert_error(BadIndex, {"index": 1}, sequence_at, well, state, state, 0, 1)

    def test_nine_people(self):
        source, target = (0,) * 9, (1,) * 9
        for size in (9, 27, 45):
            many = count_sequences(NINE, source, target, size)
            for index in (0, 1, many // 2, many - 1):
                moves = sequence_at(NINE, source, target, size, index)
                self.assertEqual(len(moves), size)
                self.assertEqual(sequence_index(NINE, source, moves), index)
            self.assert_error(BadIndex, {"index": many}, sequence_at, NINE, source, target, size,
                              many)

    def test_too_many_people_come_before_a_bad_index(self):
        for index in (-1, 0, HUGE):
            self.assert_error(TooMany, {"size": 10}, sequence_at, TEN, (1,) * 10, (0,) * 10, 1,
                              index)

    def test_lists_and_names(self):
        result = self.assert_unchanged(sequence_at, WELL_OF_LISTS, list(EMPTY), list(TWO), 4, 8)
        self.assertEqual(result, OVER_ONE)
        self.assert_lists(result)
        result.clear()
        self.assertEqual(sequence_at(index=8, size=4, target=TWO, source=EMPTY, well=well),
                         OVER_ONE)


class SequenceIndexTest(ErrorCase):

    def test_example(self):
        self.assertEqual(sequence_index(well, EMPTY, OVER_ONE), 8)

    def test_illegal_moves(self):
        for moves, pair in (([(2, 0)], (2, 0)), ([(0, -1), (1, 0), (2, 0)], (2, 0)),
                            ([(3, -1)], (3, -1)), ([(0, 0)], (0, 0)), ([(-1, -1)], (-1, -1)),
                            ([(0, -1), (0, -1), (0, -1), (9, 9)], (0, -1)),
                            ([(BIG, -1)], (BIG, -1)), (OVER_ONE + [(1, -HUGE)], (1, -HUGE))):
            self.assert_error(IllegalMove, {"pair": pair}, sequence_index, well, EMPTY, moves)
            listed = [list(move) for move in moves]
            self.assert_error(IllegalMove, {"pair": pair}, sequence_index, well, EMPTY, listed)

    def test_no_moves(self):
        for state in all_states(well):
            self.assertEqual(sequence_index(well, state, []), 0)

    def test_too_many_people_come_before_an_illegal_move(self):
        for moves in ([], [(0, -1)], [(0, 0)], [(99, -1)]):
            self.assert_error(TooMany, {"size": 10}, sequence_index, TEN, (0,) * 10, moves)

    def test_lists_and_names(self):
        moves = [list(move) for move in OVER_ONE]
        self.assertEqual(self.assert_unchanged(sequence_index, WELL_OF_LISTS, list(EMPTY), moves),
                         8)
        self.assertEqual(sequence_index(moves=tuple(OVER_ONE), state=EMPTY, well=well), 8)


if __name__ == "__main__":
    unittest.main()
