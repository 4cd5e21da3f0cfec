"""moves.py, promise [5], with the limits and conventions of [2] and [3]."""

import copy
import itertools
import random
import unittest

from samples import BIG, LARGE_WELL, NO_MOVES, ONE_GROUP, WELL_OF_LISTS, all_states, well
from wellfolk.errors import IllegalMove
from wellfolk.moves import all_moves, apply_move, apply_moves, legal_moves, weight_change
from wellfolk.wells import empty_state, is_state

MOVES = [(0, -1), (1, -1), (1, 0), (2, 0), (2, 1)]
NO_PAIRS = [(-1, -1), (-1, -2), (-2, -1), (-2, -3), (0, 0), (0, 1), (1, 1), (1, 2), (0, -2),
            (1, -2), (3, -5), (4, -1), (4, 0), (4, 3), (-4, -1), (5, 4), (BIG, -1), (BIG, 0),
            (-BIG, -1), (0, BIG), (0, -BIG), (10 ** 40, 10 ** 39), (-4, -5), (2, -4), (3, 3)]


def is_legal_by_hand(given, state, pair):
    """Tell by the words of [5] whether a pair of integers is a legal MOVE."""
    limit, groups = given
    down, up = pair
    if down not in range(len(groups)) or up not in range(-1, down):
        return False
    lighter = 0 if up == -1 else groups[up][0]
    if groups[down][0] - lighter > limit or state[down] == groups[down][1]:
        return False
    return up == -1 or state[up] > 0


class AllMovesTest(unittest.TestCase):

    def test_example(self):
        self.assertEqual(all_moves(well), MOVES)

    def test_the_difference_may_equal_the_limit_but_not_exceed_it(self):
        self.assertEqual(all_moves((3, ((3, 1),))), [(0, -1)])
        self.assertEqual(all_moves((3, ((4, 1),))), [])
        self.assertEqual(all_moves((3, ((3, 1), (6, 1)))), [(0, -1), (1, 0)])
        self.assertEqual(all_moves((3, ((3, 1), (7, 1)))), [(0, -1)])
        self.assertEqual(all_moves((3, ((5, 1), (8, 1)))), [(1, 0)])
        self.assertEqual(all_moves((3, ((5, 1), (9, 1)))), [])

    def test_limit_of_one(self):
        self.assertEqual(all_moves(ONE_GROUP), [(0, -1)])
        self.assertEqual(all_moves((1, ((1, 9), (2, 9), (4, 9), (5, 9)))),
                         [(0, -1), (1, 0), (3, 2)])

    def test_no_moves_at_all(self):
        self.assertEqual(all_moves(NO_MOVES), [])
        self.assertEqual(all_moves((1, ((2, 1),))), [])
        self.assertEqual(all_moves((BIG - 1, ((BIG, 1),))), [])

    def test_twelve_groups_with_all_moves(self):
        expected = [(down, up) for down in range(12) for up in range(-1, down)]
        self.assertEqual(all_moves(LARGE_WELL), expected)

    def test_the_kinds_of_values(self):
        for given in (well, WELL_OF_LISTS):
            self.assertIs(type(all_moves(given)), list)
            self.assertEqual([type(move) for move in all_moves(given)], [tuple] * 5)

    def test_lists_and_names(self):
        self.assertEqual(all_moves(WELL_OF_LISTS), MOVES)
        self.assertEqual(all_moves((3, [[2, 2], (3, 1), [5, 2], (9, 1)])), MOVES)
        self.assertEqual(all_moves(well=well), MOVES)
        self.assertEqual(WELL_OF_LISTS, [3, [[2, 2], [3, 1], [5, 2], [9, 1]]])

    def test_a_changed_result_does_not_affect_a_later_call(self):
        moves = all_moves(well)
        moves.clear()
        self.assertEqual(all_moves(well), MOVES)
        self.assertIsNot(all_moves(well), all_moves(well))


class LegalMovesTest(unittest.TestCase):

    def test_example(self):
        self.assertEqual(legal_moves(well, (1, 0, 0, 0)), [(0, -1), (1, -1), (1, 0), (2, 0)])

    def test_empty_and_full(self):
        self.assertEqual(legal_moves(well, (0, 0, 0, 0)), [(0, -1), (1, -1)])
        self.assertEqual(legal_moves(well, (2, 1, 2, 1)), [])
        self.assertEqual(legal_moves(well, (2, 1, 2, 0)), [])
        self.assertEqual(legal_moves(ONE_GROUP, (0,)), [(0, -1)])
        self.assertEqual(legal_moves(ONE_GROUP, (1,)), [])

    def test_one_place_left_or_one_person_there(self):
        self.assertEqual(legal_moves(well, (2, 0, 1, 0)), [(1, -1), (1, 0), (2, 0)])
        self.assertEqual(legal_moves(well, (2, 0, 2, 0)), [(1, -1), (1, 0)])
        self.assertEqual(legal_moves(well, (0, 1, 1, 0)), [(0, -1), (2, 1)])
        self.assertEqual(legal_moves(well, (0, 1, 2, 0)), [(0, -1)])

    def test_no_moves_at_all(self):
        for state in all_states(NO_MOVES):
            self.assertEqual(legal_moves(NO_MOVES, state), [])

    def test_each_state(self):
        for given in (well, (4, well[1]), (5, well[1]), (100, well[1]), (1, well[1])):
            pairs = [(down, up) for down in range(4) for up in range(-1, 4)]
            for state in all_states(given):
                expected = [pair for pair in pairs if is_legal_by_hand(given, state, pair)]
                self.assertEqual(legal_moves(given, state), expected, (given, state))

    def test_large_groups(self):
        every = [(down, up) for down in range(12) for up in range(-1, down)]
        self.assertEqual(legal_moves(LARGE_WELL, (BIG - 1,) * 12), every)
        self.assertEqual(legal_moves(LARGE_WELL, (BIG,) * 11 + (BIG - 1,)),
                         [pair for pair in every if pair[0] == 11])
        self.assertEqual(legal_moves(LARGE_WELL, (0,) * 12),
                         [pair for pair in every if pair[1] == -1])

    def test_lists_and_names(self):
        state = [1, 0, 0, 0]
        expected = [(0, -1), (1, -1), (1, 0), (2, 0)]
        moves = legal_moves(WELL_OF_LISTS, state)
        self.assertEqual(moves, expected)
        self.assertEqual([type(move) for move in moves], [tuple] * 4)
        self.assertEqual(legal_moves(state=(1, 0, 0, 0), well=well), expected)
        self.assertEqual(state, [1, 0, 0, 0])
        self.assertEqual(WELL_OF_LISTS, [3, [[2, 2], [3, 1], [5, 2], [9, 1]]])

    def test_a_changed_result_does_not_affect_a_later_call(self):
        moves = legal_moves(well, (0, 0, 0, 0))
        self.assertIs(type(moves), list)
        moves.append((7, 7))
        self.assertEqual(legal_moves(well, (0, 0, 0, 0)), [(0, -1), (1, -1)])
        self.assertEqual(all_moves(well), MOVES)


class IllegalTest(unittest.TestCase):

    def assert_illegal(self, pair, function, *arguments, **more):
        with self.assertRaises(IllegalMove) as caught:
            function(*arguments, **more)
        self.assertIs(type(caught.exception), IllegalMove)
        self.assertIsInstance(caught.exception, RuntimeError)
        self.assertEqual(caught.exception.pair, pair)
        self.assertIs(type(caught.exception.pair), tuple)


class ApplyMoveTest(IllegalTest):

    def test_examples(self):
        self.assertEqual(apply_move(well, (1, 0, 0, 0), (2, 0)), (0, 0, 1, 0))
        self.assert_illegal((2, 1), apply_move, well, (1, 0, 0, 0), (2, 1))

    def test_the_empty_basket_goes_up(self):
        self.assertEqual(apply_move(well, (0, 0, 0, 0), (0, -1)), (1, 0, 0, 0))
        self.assertEqual(apply_move(well, (0, 0, 0, 1), (1, -1)), (0, 1, 0, 1))
        self.assertEqual(apply_move(ONE_GROUP, (0,), (0, -1)), (1,))

    def test_a_full_group_and_an_empty_group(self):
        self.assert_illegal((0, -1), apply_move, well, (2, 0, 0, 0), (0, -1))
        self.assert_illegal((0, -1), apply_move, ONE_GROUP, (1,), (0, -1))
        self.assert_illegal((2, 0), apply_move, well, (2, 1, 2, 1), (2, 0))
        self.assert_illegal((2, 0), apply_move, well, (0, 1, 0, 0), (2, 0))
        self.assert_illegal((1, 0), apply_move, well, (0, 0, 0, 0), (1, 0))

    def test_a_weight_difference_equal_to_the_limit_and_one_more(self):
        groups = ((3, 1), (7, 1))
        self.assertEqual(apply_move((4, groups), (1, 0), (1, 0)), (0, 1))
        self.assert_illegal((1, 0), apply_move, (3, groups), (1, 0), (1, 0))
        self.assertEqual(apply_move((3, groups), (0, 0), (0, -1)), (1, 0))
        self.assert_illegal((0, -1), apply_move, (2, groups), (0, 0), (0, -1))
        self.assertEqual(apply_move((7, groups), (0, 0), (1, -1)), (0, 1))
        self.assert_illegal((1, -1), apply_move, (6, groups), (0, 0), (1, -1))

    def test_pairs_that_are_no_moves(self):
        for state in ((0, 0, 0, 0), (1, 1, 1, 1), (2, 1, 2, 1)):
            for pair in NO_PAIRS:
                with self.subTest([state, pair]):
                    self.assert_illegal(pair, apply_move, well, state, pair)
        for pair in ((-1, -1), (0, 0), (1, -1), (1, 0), (0, -2), (-1, -2)):
            self.assert_illegal(pair, apply_move, ONE_GROUP, (0,), pair)

    def test_no_moves_at_all(self):
        for pair in ((0, -1), (1, 0), (2, 1), (2, -1)):
            self.assert_illegal(pair, apply_move, NO_MOVES, (1, 0, 1), pair)

    def test_each_state_and_pair(self):
        for given in (well, (4, well[1]), (100, well[1])):
            pairs = list(itertools.product(range(-6, 7), repeat=2))
            for state, pair in itertools.product(all_states(given), pairs):
                if is_legal_by_hand(given, state, pair):
                    expected = list(state)
                    expected[pair[0]] += 1
                    if pair[1] >= 0:
                        expected[pair[1]] -= 1
                    self.assertEqual(apply_move(given, state, pair), tuple(expected))
                else:
                    self.assert_illegal(pair, apply_move, given, state, pair)

    def test_large_groups(self):
        self.assertEqual(apply_move(LARGE_WELL, (BIG,) * 11 + (BIG - 1,), (11, 0)),
                         (BIG - 1,) + (BIG,) * 11)
        self.assert_illegal((11, 0), apply_move, LARGE_WELL, (BIG,) * 12, (11, 0))

    def test_lists_and_names(self):
        state, move = [1, 0, 0, 0], [2, 0]
        result = apply_move(WELL_OF_LISTS, state, move)
        self.assertEqual(result, (0, 0, 1, 0))
        self.assertIs(type(result), tuple)
        self.assert_illegal((2, 1), apply_move, WELL_OF_LISTS, state, [2, 1])
        self.assert_illegal((9, 9), apply_move, WELL_OF_LISTS, state, [9, 9])
        self.assertEqual(apply_move(move=move, state=state, well=well), (0, 0, 1, 0))
        self.assertEqual([state, move], [[1, 0, 0, 0], [2, 0]])
        self.assertEqual(WELL_OF_LISTS, [3, [[2, 2], [3, 1], [5, 2], [9, 1]]])

    def test_every_result_is_a_state(self):
        for state in all_states(well):
            for move in legal_moves(well, state):
                self.assertIs(is_state(well, apply_move(well, state, move)), True)


class ApplyMovesTest(IllegalTest):

    def test_example(self):
        self.assertEqual(apply_moves(well, (0, 0, 0, 0), [(1, -1), (2, 1), (1, -1)]),
                         (0, 1, 1, 0))

    def test_no_moves_in_the_list(self):
        self.assertEqual(apply_moves(well, (2, 0, 1, 1), []), (2, 0, 1, 1))
        self.assertEqual(apply_moves(well, (2, 0, 1, 1), ()), (2, 0, 1, 1))
        result = apply_moves(well, [2, 0, 1, 1], [])
        self.assertEqual(result, (2, 0, 1, 1))
        self.assertIs(type(result), tuple)
        self.assertEqual(apply_moves(NO_MOVES, (0, 0, 2), []), (0, 0, 2))

    def test_each_move_changes_the_state_for_the_next(self):
        self.assertEqual(apply_moves(well, (0, 0, 0, 0), [(0, -1), (0, -1), (2, 0), (2, 0)]),
                         (0, 0, 2, 0))
        self.assertEqual(apply_moves(well, (0, 0, 0, 0), [(0, -1), (1, 0), (0, -1)]),
                         (1, 1, 0, 0))

    def test_the_first_illegal_pair_is_reported(self):
        start = (0, 0, 0, 0)
        self.assert_illegal((2, 1), apply_moves, well, start, [(2, 1), (9, 9), (1, -1)])
        self.assert_illegal((1, -1), apply_moves, well, start, [(1, -1), (1, -1), (2, 0)])
        self.assert_illegal((2, 1), apply_moves, well, start, [(1, -1), (2, 1), (2, 1), (5, 5)])
        self.assert_illegal((0, -1), apply_moves, well, start, [(0, -1)] * 3)
        self.assert_illegal((3, -1), apply_moves, well, start, [(0, -1), (3, -1), (0, 0)])
        self.assert_illegal((9, 9), apply_moves, well, start, [(0, -1), (9, 9)])

    def test_any_pairs_of_integers(self):
        for pair in NO_PAIRS:
            with self.subTest(pair):
                self.assert_illegal(pair, apply_moves, well, (1, 1, 1, 1), [pair])
                self.assert_illegal(pair, apply_moves, well, (1, 0, 1, 1), [(1, 0), pair])

    def test_random_sequences(self):
        chance = random.Random(5)
        for _ in range(200):
            state, moves = empty_state(well), []
            while legal_moves(well, state) and len(moves) < 20:
                moves.append(chance.choice(legal_moves(well, state)))
                state = apply_move(well, state, moves[-1])
            self.assertEqual(apply_moves(well, empty_state(well), moves), state)

    def test_long_sequences(self):
        given = (5, ((5, 400),))
        self.assertEqual(apply_moves(given, (0,), [(0, -1)] * 300), (300,))
        self.assertEqual(apply_moves(given, (0,), [(0, -1)] * 400), (400,))
        self.assert_illegal((0, -1), apply_moves, given, (0,), [(0, -1)] * 401)

    def test_lists_and_names(self):
        state, moves = [0, 0, 0, 0], [[1, -1], (2, 1), [1, -1]]
        result = apply_moves(WELL_OF_LISTS, state, moves)
        self.assertEqual(result, (0, 1, 1, 0))
        self.assertIs(type(result), tuple)
        self.assertEqual(apply_moves(well, tuple(state), tuple(moves)), (0, 1, 1, 0))
        self.assertEqual(apply_moves(moves=moves, well=well, state=state), (0, 1, 1, 0))
        self.assert_illegal((1, -1), apply_moves, well, state, [[1, -1], [1, -1]])
        self.assertEqual([state, moves], [[0, 0, 0, 0], [[1, -1], (2, 1), [1, -1]]])
        self.assertEqual(WELL_OF_LISTS, [3, [[2, 2], [3, 1], [5, 2], [9, 1]]])

    def test_arguments_are_not_changed_by_an_error(self):
        state, moves = [0, 0, 0, 0], [[0, -1], [5, 5]]
        self.assert_illegal((5, 5), apply_moves, well, state, moves)
        self.assertEqual([state, moves], [[0, 0, 0, 0], [[0, -1], [5, 5]]])


class WeightChangeTest(unittest.TestCase):

    def test_example(self):
        self.assertEqual(weight_change(well, (2, 0, 0, 0), (0, 1, 1, 0)), 4)

    def test_more_less_and_equal(self):
        self.assertEqual(weight_change(well, (0, 0, 0, 0), (2, 1, 2, 1)), 26)
        self.assertEqual(weight_change(well, (2, 1, 2, 1), (0, 0, 0, 0)), -26)
        self.assertEqual(weight_change(well, (0, 1, 1, 0), (2, 0, 0, 0)), -4)
        self.assertEqual(weight_change(well, (1, 1, 1, 1), (1, 1, 1, 1)), 0)
        self.assertEqual(weight_change(well, (1, 1, 0, 0), (0, 0, 1, 0)), 0)

    def test_each_group(self):
        for group, weight in enumerate((2, 3, 5, 9)):
            target = [0, 0, 0, 0]
            target[group] = 1
            self.assertEqual(weight_change(well, (0, 0, 0, 0), target), weight)

    def test_target_need_not_be_reachable(self):
        self.assertEqual(weight_change(NO_MOVES, (0, 0, 0), (3, 1, 2)), 22)
        self.assertEqual(weight_change(ONE_GROUP, (1,), (0,)), -1)

    def test_each_move_contributes_the_difference_of_its_weights(self):
        for state in all_states(well):
            for down, up in legal_moves(well, state):
                target = apply_move(well, state, (down, up))
                expected = well[1][down][0] - (well[1][up][0] if up >= 0 else 0)
                self.assertEqual(weight_change(well, state, target), expected)

    def test_large_groups(self):
        weights = sum(weight for weight, _ in LARGE_WELL[1])
        self.assertEqual(weight_change(LARGE_WELL, (0,) * 12, (BIG,) * 12), BIG * weights)

    def test_lists_and_names(self):
        source, target = [2, 0, 0, 0], [0, 1, 1, 0]
        before = copy.deepcopy([source, target, WELL_OF_LISTS])
        self.assertEqual(weight_change(WELL_OF_LISTS, source, target), 4)
        self.assertEqual(weight_change(target=target, source=source, well=well), 4)
        self.assertEqual([source, target, WELL_OF_LISTS], before)


if __name__ == "__main__":
    unittest.main()
