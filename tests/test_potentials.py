"""potentials.py, promise [11], with [1] (c) and the conventions of [2], [3] and [9]."""

import itertools
import unittest

from checks import OTHER_KINDS, ErrorCase
from samples import (BIG, HUGE, LARGE_WELL, NO_MOVES, ONE_GROUP, SMALL_WELLS, WELL_OF_LISTS,
                     all_pairs, all_states, well)
from search import reachable_from, sizes_from
from wellfolk.covers import min_moves
from wellfolk.errors import Unreachable
from wellfolk.moves import all_moves
from wellfolk.potentials import is_potential, optimal_potential, potential_gain
from wellfolk.reach import obstruction

EMPTY = (0, 0, 0, 0)
FULL = (2, 1, 2, 1)
TWO = (0, 0, 2, 0)
BEST = (1, 1, 2, 0)


def is_potential_by_hand(given, numbers):
    """Tell by the words of [11] whether some integers are a POTENTIAL."""
    for down, up in all_moves(given):
        below = 0 if up == -1 else numbers[up]
        if numbers[down] > below + 1:
            return False
    return True


class IsPotentialTest(ErrorCase):

    def assert_none(self, values, given=well):
        for value in values:
            self.assertIs(is_potential(given, value), False, value)

    def test_example(self):
        self.assertIs(is_potential(well, BEST), True)

    def test_all_small_values(self):
        for given in SMALL_WELLS:
            for numbers in itertools.product(range(-1, 3), repeat=len(given[1])):
                self.assertIs(is_potential(given, numbers), is_potential_by_hand(given, numbers),
                              (given, numbers))

    def test_one_more_than_the_empty_basket_and_than_a_group(self):
        for value in (EMPTY, (1, 1, 1, 0), (-5, -5, -5, 0), (1, 1, 2, -7), (-1, 0, 0, 1)):
            self.assertIs(is_potential(well, value), True, value)
        self.assert_none([(2, 0, 0, 0), (0, 2, 0, 0), (0, 0, 2, 0), (0, 1, 2, 0), (1, 0, 2, 0),
                          (-1, 1, 0, 0), (0, -2, 0, 0)])

    def test_groups_without_moves_may_have_any_value(self):
        self.assertIs(is_potential(well, (1, 1, 2, BIG)), True)
        self.assertIs(is_potential(well, (1, 1, 2, -HUGE)), True)
        self.assertIs(is_potential(NO_MOVES, (BIG, -BIG, HUGE)), True)
        self.assertIs(is_potential((5, well[1]), (1, 1, 1, 2)), True)
        self.assert_none([(1, 1, 2, BIG), (1, 1, 1, 3)], (4, well[1]))

    def test_one_group_and_twelve(self):
        for number in (1, 0, -1, -BIG, -HUGE):
            self.assertIs(is_potential(ONE_GROUP, (number,)), True)
        self.assert_none([(2,), (BIG,), (HUGE,)], ONE_GROUP)
        self.assertIs(is_potential(LARGE_WELL, (1,) * 12), True)
        self.assertIs(is_potential(LARGE_WELL, (-BIG,) * 12), True)
        self.assert_none([(1,) * 11 + (2,), (0,) * 11 + (2,), (-1,) + (1,) * 11], LARGE_WELL)

    def test_other_kinds(self):
        self.assert_none(OTHER_KINDS)
        self.assert_none([list(BEST), [BEST], (BEST,), str(BEST), BEST + (None,)])
        self.assert_none([value for value in OTHER_KINDS if value != (0,)], ONE_GROUP)

    def test_missing_and_superfluous_parts(self):
        self.assert_none([(1, 1, 2), (1, 1), (1,), (), (1, 1, 2, 0, 0), (0,) * 5, (0,) * 12])
        self.assert_none([(), (0, 0)], ONE_GROUP)

    def test_booleans_and_others_in_place_of_integers(self):
        for at in range(4):
            for other in (True, False, None, "1", "", (1,), [1], ()):
                value = BEST[:at] + (other,) + BEST[at + 1:]
                self.assertIs(is_potential(well, value), False, value)

    def test_lists_and_names(self):
        self.assertIs(self.assert_unchanged(is_potential, WELL_OF_LISTS, BEST), True)
        self.assertIs(is_potential(value=BEST, well=WELL_OF_LISTS), True)
        self.assertIs(self.assert_unchanged(is_potential, WELL_OF_LISTS, list(BEST)), False)


class PotentialGainTest(ErrorCase):

    def test_example(self):
        self.assertEqual(potential_gain(well, BEST, EMPTY, TWO), 4)

    def test_all_pairs(self):
        for source, target in all_pairs(well):
            expected = sum(BEST[k] * target[k] for k in range(4))
            expected -= sum(BEST[k] * source[k] for k in range(4))
            self.assertEqual(potential_gain(well, BEST, source, target), expected)

    def test_no_sequence_has_fewer_moves(self):
        for given in SMALL_WELLS:
            values = [value for value in itertools.product((-1, 0, 1, 2), repeat=len(given[1]))
                      if is_potential(given, value)][::7]
            for source in all_states(given)[:4]:
                for target, sizes in sizes_from(given, source).items():
                    for value in values:
                        self.assertLessEqual(potential_gain(given, value, source, target),
                                             min(sizes))

    def test_a_state_and_itself_and_unreachable_targets(self):
        for state in all_states(well):
            self.assertEqual(potential_gain(well, BEST, state, state), 0)
        self.assertEqual(potential_gain(well, BEST, TWO, EMPTY), -4)
        self.assertEqual(potential_gain(well, (0, 0, 0, 5), EMPTY, FULL), 5)

    def test_large_numbers(self):
        self.assertEqual(potential_gain(LARGE_WELL, (-BIG,) * 12, (0,) * 12, (BIG,) * 12),
                         -12 * BIG * BIG)
        self.assertEqual(potential_gain(well, (-BIG, -BIG, -BIG, BIG), FULL, EMPTY), 4 * BIG)

    def test_lists_and_names(self):
        result = self.assert_unchanged(potential_gain, WELL_OF_LISTS, list(BEST), list(EMPTY),
                                       list(TWO))
        self.assertEqual(result, 4)
        self.assertIs(type(result), int)
        self.assertEqual(potential_gain(target=TWO, source=list(EMPTY), potential=list(BEST),
                                        well=well), 4)


class OptimalPotentialTest(ErrorCase):

    def assert_optimal(self, given, source, target, least):
        best = optimal_potential(given, source, target)
        self.assertIs(is_potential(given, best), True, (given, source, target, best))
        self.assertEqual(potential_gain(given, best, source, target), least)
        self.assertTrue(all(-BIG <= number <= BIG for number in best))

    def test_example(self):
        best = optimal_potential(well, EMPTY, TWO)
        self.assertEqual(potential_gain(well, best, EMPTY, TWO), 4)
        self.assertIs(is_potential(well, best), True)

    def test_the_gain_equals_what_a_search_finds(self):
        for given in SMALL_WELLS:
            for source in all_states(given):
                for target, sizes in sizes_from(given, source).items():
                    self.assert_optimal(given, source, target, min(sizes))

    def test_a_state_and_itself(self):
        for given in (well, NO_MOVES, ONE_GROUP):
            for state in all_states(given):
                self.assert_optimal(given, state, state, 0)

    def test_one_group(self):
        self.assertEqual(optimal_potential(ONE_GROUP, (0,), (1,)), (1,))
        self.assert_optimal((5, ((5, 9),)), (2,), (9,), 7)

    def test_large_groups(self):
        empty, full = (0,) * 12, (BIG,) * 12
        for limit in (1, 2, 3, 5, 11, BIG - 11, BIG - 6, BIG - 1, BIG):
            given = (limit, LARGE_WELL[1])
            source = (BIG,) * 6 + (0,) * 6
            self.assert_optimal(given, source, source[::-1], min_moves(given, source, source[::-1]))
            if limit >= BIG - 11:
                self.assert_optimal(given, empty, full, min_moves(given, empty, full))

    def test_unreachable(self):
        for given in SMALL_WELLS[:9]:
            for source, target in all_pairs(given):
                if target not in reachable_from(given, source):
                    reason = obstruction(given, source, target)
                    self.assert_error(Unreachable, {"reason": reason}, optimal_potential, given,
                                      source, target)
        self.assert_error(Unreachable, {"reason": ("more", 3)}, optimal_potential, WELL_OF_LISTS,
                          [0, 0, 0, 0], [0, 0, 0, 1])

    def test_lists_and_names(self):
        best = self.assert_unchanged(optimal_potential, WELL_OF_LISTS, list(EMPTY), list(TWO))
        self.assertEqual([type(part) for part in (best,) + best], [tuple] + [int] * 4)
        self.assertEqual(best, optimal_potential(well, EMPTY, TWO))
        self.assertEqual(best, optimal_potential(target=TWO, source=EMPTY, well=well))


if __name__ == "__main__":
    unittest.main()
