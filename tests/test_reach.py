"""reach.py, promise [7] and the guarantees of [1], with the conventions of [2] and [3]."""

import unittest

from samples import (BIG, HUGE, LARGE_WELL, NO_MOVES, ONE_GROUP, SMALL_WELLS, WELL_OF_LISTS,
                     all_pairs, all_states, well)
from search import counts_by_hand, legal_pairs, reachable_from, segments_by_hand
from wellfolk.reach import is_obstruction, is_reachable, is_terminal, obstruction, terminal_state
from wellfolk.wells import empty_state, is_state

EMPTY = (0, 0, 0, 0)
FULL = (2, 1, 2, 1)


def obstructions_by_hand(given, source, target):
    """Return all obstructions by the words of [7], in ascending order of their groups."""
    _, starts = segments_by_hand(given)
    before, after = counts_by_hand(given, source), counts_by_hand(given, target)
    found = []
    for group in range(len(source)):
        if after[group] < before[group]:
            found.append(("fewer", group))
        if after[group] > before[group] and starts[group]:
            found.append(("more", group))
    return found


class IsReachableTest(unittest.TestCase):

    def test_example(self):
        self.assertIs(is_reachable(well, (1, 0, 0, 0), (0, 1, 1, 0)), True)

    def test_what_a_search_finds(self):
        for given in SMALL_WELLS:
            for source, target in all_pairs(given):
                expected = target in reachable_from(given, source)
                self.assertIs(is_reachable(given, source, target), expected,
                              (given, source, target))

    def test_a_state_and_itself(self):
        for given in SMALL_WELLS:
            for state in all_states(given):
                self.assertIs(is_reachable(given, state, state), True)

    def test_empty_and_full(self):
        self.assertIs(is_reachable(well, EMPTY, FULL), False)
        self.assertIs(is_reachable(well, EMPTY, (2, 1, 2, 0)), True)
        self.assertIs(is_reachable(well, FULL, EMPTY), False)
        self.assertIs(is_reachable((4, well[1]), EMPTY, FULL), True)

    def test_a_first_weight_equal_to_the_limit_and_one_more(self):
        self.assertIs(is_reachable((3, ((3, 2),)), (0,), (2,)), True)
        self.assertIs(is_reachable((3, ((4, 2),)), (0,), (2,)), False)
        self.assertIs(is_reachable(ONE_GROUP, (0,), (1,)), True)
        self.assertIs(is_reachable(ONE_GROUP, (1,), (0,)), False)

    def test_large_groups(self):
        full = (BIG,) * 12
        self.assertIs(is_reachable(LARGE_WELL, (0,) * 12, full), True)
        self.assertIs(is_reachable(LARGE_WELL, full, full[:-1] + (BIG - 1,)), False)
        heavy = (1, ((BIG - 1, BIG), (BIG, BIG)))
        self.assertIs(is_reachable(heavy, (BIG, 0), (0, BIG)), True)
        self.assertIs(is_reachable(heavy, (BIG, 0), (1, BIG)), False)
        self.assertIs(is_reachable(heavy, (BIG, 0), (1, BIG - 1)), True)

    def test_lists_and_names(self):
        source, target = [1, 0, 0, 0], [0, 1, 1, 0]
        self.assertIs(is_reachable(WELL_OF_LISTS, source, target), True)
        self.assertIs(is_reachable(WELL_OF_LISTS, target, source), False)
        self.assertIs(is_reachable(target=target, source=(1, 0, 0, 0), well=well), True)
        self.assertEqual([source, target], [[1, 0, 0, 0], [0, 1, 1, 0]])
        self.assertEqual(WELL_OF_LISTS, [3, [[2, 2], [3, 1], [5, 2], [9, 1]]])


class ObstructionTest(unittest.TestCase):

    def test_examples(self):
        self.assertEqual(obstruction(well, (0, 0, 1, 0), (2, 1, 0, 0)), ("fewer", 2))
        self.assertEqual(obstruction(well, (0, 0, 1, 0), (0, 0, 1, 1)), ("more", 3))

    def test_none(self):
        self.assertIsNone(obstruction(well, (1, 0, 0, 0), (0, 1, 1, 0)))
        self.assertIsNone(obstruction(well, FULL, FULL))
        self.assertIsNone(obstruction(ONE_GROUP, (0,), (1,)))

    def test_the_smallest_group_comes_first(self):
        self.assertEqual(obstruction(well, FULL, EMPTY), ("fewer", 0))
        self.assertEqual(obstruction(well, (0, 1, 1, 1), (2, 0, 1, 0)), ("fewer", 1))
        self.assertEqual(obstruction(NO_MOVES, (0, 1, 0), (1, 0, 0)), ("more", 0))
        self.assertEqual(obstruction(NO_MOVES, (1, 0, 0), (0, 1, 0)), ("fewer", 0))
        self.assertEqual(obstruction(well, (0, 0, 1, 0), (1, 1, 0, 1)), ("fewer", 2))
        self.assertEqual(obstruction(well, (0, 0, 0, 1), (1, 0, 0, 0)), ("fewer", 3))

    def test_more_within_a_segment_is_none(self):
        given = (1, ((2, 2), (3, 2)))
        self.assertIsNone(obstruction(given, (1, 0), (0, 1)))
        self.assertEqual(obstruction(given, (1, 0), (1, 1)), ("more", 0))
        self.assertEqual(obstruction(given, (0, 1), (1, 0)), ("fewer", 1))

    def test_each_pair_of_states(self):
        for given in SMALL_WELLS:
            for source, target in all_pairs(given):
                found = obstructions_by_hand(given, source, target)
                result = obstruction(given, source, target)
                self.assertEqual(result, found[0] if found else None)
                self.assertEqual(result is None, target in reachable_from(given, source))

    def test_it_is_an_obstruction(self):
        for given in SMALL_WELLS:
            for source, target in all_pairs(given):
                result = obstruction(given, source, target)
                self.assertIs(is_obstruction(given, source, target, result), result is not None)

    def test_large_groups(self):
        given = (1, ((2, BIG), (3, BIG), (9, BIG)))
        self.assertEqual(obstruction(given, (BIG, 0, BIG), (BIG, 1, BIG)), ("more", 0))
        self.assertEqual(obstruction(given, (BIG, 0, BIG), (0, BIG, BIG - 1)), ("fewer", 2))
        self.assertIsNone(obstruction(given, (BIG, 0, BIG), (0, BIG, BIG)))

    def test_lists_and_names(self):
        source, target = [0, 0, 1, 0], [2, 1, 0, 0]
        result = obstruction(WELL_OF_LISTS, source, target)
        self.assertEqual(result, ("fewer", 2))
        self.assertIs(type(result), tuple)
        self.assertEqual(obstruction(target=target, well=well, source=source), ("fewer", 2))
        self.assertEqual([source, target], [[0, 0, 1, 0], [2, 1, 0, 0]])
        self.assertEqual(WELL_OF_LISTS, [3, [[2, 2], [3, 1], [5, 2], [9, 1]]])


class IsObstructionTest(unittest.TestCase):

    # Between these there are ("fewer", 0), ("fewer", 1), ("fewer", 2) and ("more", 3).
    source, target = (0, 0, 1, 0), (0, 0, 0, 1)

    def test_example(self):
        self.assertIs(is_obstruction(well, (0, 0, 1, 0), (0, 0, 0, 1), ("more", 3)), True)

    def test_at_any_group(self):
        for value in (("fewer", 0), ("fewer", 1), ("fewer", 2), ("more", 3)):
            self.assertIs(is_obstruction(well, self.source, self.target, value), True)

    def test_each_pair_of_states_with_each_value(self):
        values = [(word, group) for word in ("fewer", "more") for group in range(-6, 7)]
        for given in SMALL_WELLS:
            for source, target in all_pairs(given):
                found = obstructions_by_hand(given, source, target)
                result = [value for value in values
                          if is_obstruction(given, source, target, value)]
                self.assertEqual(sorted(result), sorted(found))

    def assert_none(self, value):
        self.assertIs(is_obstruction(well, self.source, self.target, value), False, value)

    def test_other_words_and_groups(self):
        for value in (("more", 0), ("more", 1), ("more", 2), ("fewer", 3), ("fewer", 4),
                      ("more", 4), ("fewer", -1), ("fewer", -2), ("more", -1), ("fewer", -4),
                      ("fewer", HUGE), ("more", -HUGE), ("less", 0), ("Fewer", 0), ("", 0),
                      ("fewer ", 0), (" more", 3), ("fewe", 0), ("MORE", 3), ("fewer", "0"),
                      ("f", 0), ("equal", 0)):
            self.assert_none(value)

    def test_booleans_are_not_integers(self):
        for value in (("fewer", False), ("fewer", True), ("more", True), (True, 0), (False, 3)):
            self.assert_none(value)
        source, target = (1, 0), (1, 1)
        for given in ((1, ((2, 1), (9, 1))), (1, ((5, 1), (7, 1)))):
            self.assertIs(is_obstruction(given, source, target, ("more", 1)), True)
            self.assertIs(is_obstruction(given, source, target, ("more", True)), False)

    def test_lists_are_not_tuples(self):
        for value in (["fewer", 0], ["more", 3], (["fewer"], 0), ("fewer", [0]), [("fewer", 0)],
                      (["fewer", 0],), [], [[]]):
            self.assert_none(value)

    def test_missing_repeated_and_exchanged_parts(self):
        for value in ((), ("fewer",), (0,), ("fewer", 0, 0), ("fewer", 0, 1), (0, "fewer"),
                      (3, "more"), ("more", "more"), (0, 0), ("fewer", 0, None),
                      (("fewer", 0),), (("fewer", 0), ("fewer", 1)), ("fewer", (0,)),
                      (("fewer",), 0), ("fewer", "fewer", 0), ("fewer", "more", 3),
                      ("fewer", ()), ((), 0)):
            self.assert_none(value)

    def test_other_kinds(self):
        for value in (None, True, False, 0, 1, 3, -1, HUGE, "", "fewer", "more", "fewer 0", "f0",
                      (None, 0), ("fewer", None), (None, None), [None], (None,)):
            self.assert_none(value)
            self.assertIs(is_obstruction(well, EMPTY, EMPTY, value), False, value)

    def test_eight_levels(self):
        value = 0
        for _ in range(8):
            value = ("fewer", value)
            if value != ("fewer", 0):
                self.assert_none(value)
        value = "fewer"
        for _ in range(7):
            value = [value, 0]
            self.assert_none((value, 0))

    def test_none_if_the_target_is_reachable(self):
        for value in (("fewer", 0), ("more", 0), ("fewer", 3), ("more", 3)):
            self.assertIs(is_obstruction(well, (1, 0, 0, 0), (0, 1, 1, 0), value), False)
            self.assertIs(is_obstruction(well, FULL, FULL, value), False)
            self.assertIs(is_obstruction(ONE_GROUP, (0,), (1,), value), False)

    def test_lists_and_names(self):
        source, target = list(self.source), list(self.target)
        self.assertIs(is_obstruction(WELL_OF_LISTS, source, target, ("more", 3)), True)
        self.assertIs(is_obstruction(WELL_OF_LISTS, source, target, ["more", 3]), False)
        self.assertIs(is_obstruction(value=("fewer", 2), target=target, source=source, well=well),
                      True)
        self.assertEqual([source, target], [[0, 0, 1, 0], [0, 0, 0, 1]])
        self.assertEqual(WELL_OF_LISTS, [3, [[2, 2], [3, 1], [5, 2], [9, 1]]])

    def test_value_is_not_changed(self):
        value = ["fewer", [0]]
        self.assert_none(value)
        self.assertEqual(value, ["fewer", [0]])


class IsTerminalTest(unittest.TestCase):

    def test_example(self):
        self.assertIs(is_terminal(well, (2, 1, 2, 0)), True)

    def test_each_state(self):
        for given in SMALL_WELLS:
            for state in all_states(given):
                self.assertIs(is_terminal(given, state), not legal_pairs(given, state))

    def test_empty_and_full(self):
        self.assertIs(is_terminal(well, EMPTY), False)
        self.assertIs(is_terminal(well, FULL), True)
        self.assertIs(is_terminal(NO_MOVES, (0, 0, 0)), True)
        self.assertIs(is_terminal(ONE_GROUP, (0,)), False)
        self.assertIs(is_terminal(ONE_GROUP, (1,)), True)

    def test_large_groups(self):
        self.assertIs(is_terminal(LARGE_WELL, (BIG,) * 12), True)
        self.assertIs(is_terminal(LARGE_WELL, (BIG - 1,) + (BIG,) * 11), False)
        self.assertIs(is_terminal((1, ((BIG - 1, BIG), (BIG, BIG))), (1, BIG)), True)
        self.assertIs(is_terminal((1, ((BIG - 1, BIG), (BIG, BIG))), (1, BIG - 1)), False)

    def test_lists_and_names(self):
        state = [2, 1, 2, 0]
        self.assertIs(is_terminal(WELL_OF_LISTS, state), True)
        self.assertIs(is_terminal(WELL_OF_LISTS, [2, 1, 1, 0]), False)
        self.assertIs(is_terminal(state=state, well=well), True)
        self.assertEqual(state, [2, 1, 2, 0])
        self.assertEqual(WELL_OF_LISTS, [3, [[2, 2], [3, 1], [5, 2], [9, 1]]])


class TerminalStateTest(unittest.TestCase):

    def test_example(self):
        self.assertEqual(terminal_state(well, (0, 1, 0, 1)), (2, 1, 2, 1))

    def test_what_a_search_finds(self):
        for given in SMALL_WELLS:
            for state in all_states(given):
                ends = [end for end in reachable_from(given, state)
                        if not legal_pairs(given, end)]
                self.assertEqual([terminal_state(given, state)], ends)

    def test_every_sequence_leads_there(self):
        for given in SMALL_WELLS:
            for state in all_states(given):
                end = terminal_state(given, state)
                self.assertIs(is_state(given, end), True)
                self.assertIs(is_terminal(given, end), True)
                for later in reachable_from(given, state):
                    self.assertEqual(terminal_state(given, later), end)

    def test_segments_that_are_not_grounded_keep_their_people(self):
        given = (2, ((5, 1), (6, 2), (7, 1), (10, 1), (12, 2)))
        self.assertEqual(terminal_state(given, (1, 2, 0, 1, 0)), (0, 2, 1, 0, 1))
        self.assertEqual(terminal_state(given, (1, 0, 0, 1, 2)), (0, 0, 1, 1, 2))
        self.assertEqual(terminal_state(given, (0, 0, 0, 0, 0)), (0, 0, 0, 0, 0))
        self.assertEqual(terminal_state(given, (1, 2, 1, 1, 2)), (1, 2, 1, 1, 2))

    def test_empty_full_and_one_group(self):
        self.assertEqual(terminal_state(well, EMPTY), (2, 1, 2, 0))
        self.assertEqual(terminal_state(well, FULL), FULL)
        self.assertEqual(terminal_state(well, (2, 1, 2, 0)), (2, 1, 2, 0))
        self.assertEqual(terminal_state(ONE_GROUP, (0,)), (1,))
        self.assertEqual(terminal_state((1, ((2, 3),)), (2,)), (2,))

    def test_large_groups(self):
        self.assertEqual(terminal_state(LARGE_WELL, (0,) * 12), (BIG,) * 12)
        heavy = (1, ((BIG - 2, BIG), (BIG - 1, 5), (BIG, BIG)))
        self.assertEqual(terminal_state(heavy, (BIG, 0, 7)), (2, 5, BIG))
        self.assertEqual(terminal_state(heavy, (BIG - 7, 5, 0)), (0, 0, BIG - 2))

    def test_lists_and_names(self):
        state = [0, 1, 0, 1]
        result = terminal_state(WELL_OF_LISTS, state)
        self.assertEqual(result, FULL)
        self.assertIs(type(result), tuple)
        self.assertEqual(terminal_state(state=state, well=well), FULL)
        self.assertEqual(state, [0, 1, 0, 1])
        self.assertEqual(WELL_OF_LISTS, [3, [[2, 2], [3, 1], [5, 2], [9, 1]]])
        self.assertEqual(terminal_state(well, empty_state(well)), (2, 1, 2, 0))


if __name__ == "__main__":
    unittest.main()
