"""simulation.py, promise [14]: the commands, with the conventions of [2] and [3]."""

import unittest

from checks import ErrorCase
from samples import (BIG, HUGE, LARGE_WELL, NO_MOVES, ONE_GROUP, SMALL_WELLS, WELL_OF_LISTS,
                     all_states, well)
from search import after_move, legal_pairs, reachable_from, sizes_from, weight_below
from wellfolk.errors import (IllegalMove, LastPeople, NotEnough, TooManyGroups, UnknownGroup,
                             Unreachable)
from wellfolk.reach import obstruction
from wellfolk.simulation import Simulation

EMPTY = (0, 0, 0, 0)
FULL = (2, 1, 2, 1)
TWELVE = (5, tuple((10 * k + 10, 1) for k in range(12)))


def snapshot(simulation):
    """Return all that the queries of a Simulation answer, but for the log."""
    depths = range(simulation.command_count() + 1)
    earlier = [simulation.at_depth(depth) for depth in depths]
    return [(one.well(), one.state(), one.move_total(), one.weight_total(), one.legal_moves(),
             one.terminal_state(), len(one), repr(one)) for one in earlier]


class CommandCase(ErrorCase):

    def setUp(self):
        self.simulation = Simulation(well, EMPTY)

    def assert_fails(self, kind, fields, simulation, name, *arguments, **named):
        """Check that a command raises an error and changes nothing except the log."""
        before, log = snapshot(simulation), simulation.log()
        self.assert_error(kind, fields, getattr(simulation, name), *arguments, **named)
        self.assertEqual(snapshot(simulation), before)
        self.assertEqual(simulation.log(), log + [("begin", name), ("end", name)])

    def assert_reverts(self, simulation, name, *arguments, **named):
        """Execute a command, check that it can be undone, and return its result."""
        before = snapshot(simulation)
        result = getattr(simulation, name)(*arguments, **named)
        self.assertEqual(simulation.command_count(), len(before))
        after = snapshot(simulation)
        self.assertIs(simulation.undo(), True)
        self.assertEqual(snapshot(simulation), before)
        self.assertEqual(getattr(simulation, name)(*arguments, **named), result)
        self.assertEqual(snapshot(simulation), after)
        return result


class NewTest(CommandCase):

    def test_a_new_one(self):
        for given in SMALL_WELLS:
            for state in all_states(given)[::3]:
                simulation = Simulation(given, state)
                self.assertEqual(simulation.well(), given)
                self.assertEqual(simulation.state(), state)
                self.assertEqual([simulation.move_total(), simulation.weight_total(),
                                  simulation.command_count(), simulation.log()], [0, 0, 0, []])
                self.assertIs(simulation.undo(), False)

    def test_it_copies_its_arguments(self):
        given, state = [3, [[2, 2], [3, 1], [5, 2], [9, 1]]], [1, 0, 0, 0]
        simulation = self.assert_unchanged(Simulation, given, state)
        given[0], given[1][0][1], state[0] = 9, 7, 2
        given[1].pop()
        self.assertEqual(simulation.well(), well)
        self.assertEqual(simulation.state(), (1, 0, 0, 0))
        self.assertEqual([type(part) for part in simulation.well()[1]], [tuple] * 4)
        self.assertEqual(Simulation(state=EMPTY, well=WELL_OF_LISTS).well(), well)


class MoveTest(CommandCase):

    def test_examples(self):
        self.assertEqual(self.simulation.move(1, -1), 3)
        self.setUp()
        self.assertEqual(self.simulation.move(0, -1, count=2), 4)
        self.setUp()
        self.assert_error(IllegalMove, {"pair": (2, -1)}, self.simulation.move, 2, -1)

    def test_every_pair(self):
        for state in all_states(well):
            simulation = Simulation(well, state)
            for down in range(-2, 6):
                for up in range(-3, 6):
                    if (down, up) in legal_pairs(well, state):
                        later = after_move(state, (down, up))
                        gain = weight_below(well, later) - weight_below(well, state)
                        self.assertEqual(simulation.move(down, up), gain)
                        self.assertEqual(simulation.state(), later)
                        self.assertEqual([simulation.move_total(), simulation.weight_total()],
                                         [1, gain])
                        self.assertIs(simulation.undo(), True)
                    else:
                        self.assert_fails(IllegalMove, {"pair": (down, up)}, simulation, "move",
                                          down, up)

    def test_integers_of_any_size(self):
        for pair in ((HUGE, -1), (0, -HUGE), (-HUGE, HUGE), (BIG, BIG), (0, 0), (-1, -1)):
            self.assert_fails(IllegalMove, {"pair": pair}, self.simulation, "move", *pair)
            self.assert_fails(IllegalMove, {"pair": pair}, self.simulation, "move", *pair,
                              count=BIG)

    def test_as_many_as_are_legal_and_one_more(self):
        simulation = Simulation((3, ((2, 5), (3, 4))), (3, 1))
        self.assertEqual(self.assert_reverts(simulation, "move", 1, 0, count=3), 3)
        self.assertEqual(simulation.state(), (0, 4))
        self.assertEqual(simulation.move_total(), 3)
        simulation = Simulation((3, ((2, 5), (3, 4))), (3, 1))
        self.assert_fails(IllegalMove, {"pair": (1, 0)}, simulation, "move", 1, 0, count=4)
        self.assertEqual(self.assert_reverts(simulation, "move", 0, -1, count=2), 4)
        self.assert_fails(IllegalMove, {"pair": (0, -1)}, simulation, "move", 0, -1)
        self.assert_fails(IllegalMove, {"pair": (1, -1)}, simulation, "move", 1, -1, count=4)
        self.assertEqual(simulation.move(1, -1, count=3), 9)
        self.assertEqual([simulation.move_total(), simulation.weight_total()], [5, 13])

    def test_large_counts(self):
        simulation = Simulation(LARGE_WELL, (0,) * 12)
        self.assertEqual(simulation.move(0, -1, count=BIG), BIG * (BIG - 11))
        self.assertEqual(simulation.move(11, 0, count=BIG - 1), 11 * (BIG - 1))
        self.assertEqual(simulation.state(), (1,) + (0,) * 10 + (BIG - 1,))
        self.assertEqual(simulation.move_total(), 2 * BIG - 1)
        self.assert_fails(IllegalMove, {"pair": (11, 0)}, simulation, "move", 11, 0, count=2)

    def test_names(self):
        self.assertEqual(self.simulation.move(count=2, up=-1, down=0), 4)
        self.assertRaises(TypeError, self.simulation.move, 0, -1, 1)


class GotoTest(CommandCase):

    def test_examples(self):
        self.assertEqual(self.simulation.goto((0, 1, 1, 0)), 3)

    def test_what_a_search_finds(self):
        for given in SMALL_WELLS[:12]:
            for source in all_states(given)[::2]:
                simulation = Simulation(given, source)
                for target, sizes in sizes_from(given, source).items():
                    self.assertEqual(simulation.goto(target), min(sizes))
                    self.assertEqual(simulation.state(), target)
                    self.assertEqual(simulation.move_total(), min(sizes))
                    self.assertEqual(simulation.weight_total(),
                                     weight_below(given, target) - weight_below(given, source))
                    self.assertEqual(simulation.command_count(), 1)
                    self.assertIs(simulation.undo(), True)
                    self.assertEqual(simulation.state(), source)

    def test_no_move_is_a_command_too(self):
        self.assertEqual(self.assert_reverts(self.simulation, "goto", EMPTY), 0)
        self.assertEqual([self.simulation.command_count(), self.simulation.move_total()], [1, 0])

    def test_unreachable(self):
        for source in all_states(well)[::5]:
            simulation = Simulation(well, source)
            for target in all_states(well):
                if target not in reachable_from(well, source):
                    self.assert_fails(Unreachable, {"reason": obstruction(well, source, target)},
                                      simulation, "goto", target)

    def test_large_groups(self):
        simulation = Simulation(LARGE_WELL, (0,) * 12)
        self.assertEqual(self.assert_reverts(simulation, "goto", (BIG,) * 12), 12 * BIG)
        self.assertEqual(simulation.move_total(), 12 * BIG)
        self.assertEqual(simulation.weight_total(), weight_below(LARGE_WELL, (BIG,) * 12))

    def test_lists_and_names(self):
        state = [0, 1, 1, 0]
        self.assertEqual(self.assert_unchanged(self.simulation.goto, state), 3)
        state[0] = 2
        self.assertEqual(self.simulation.state(), (0, 1, 1, 0))
        self.assertEqual(self.simulation.goto(state=[0, 1, 1, 0]), 0)
        self.assertIs(type(self.simulation.state()), tuple)
        self.assert_fails(Unreachable, {"reason": ("fewer", 0)}, self.simulation, "goto",
                          [0, 0, 1, 0])


class FinishTest(CommandCase):

    def test_examples(self):
        self.assertEqual(self.simulation.finish(), 10)
        self.assertEqual(self.simulation.state(), (2, 1, 2, 0))

    def test_what_a_search_finds(self):
        for given in SMALL_WELLS:
            for source in all_states(given)[::2]:
                sizes = sizes_from(given, source)
                end = max(sizes, key=lambda state: weight_below(given, state))
                simulation = Simulation(given, source)
                self.assertEqual(simulation.finish(), max(sizes[end]))
                self.assertEqual(simulation.state(), end)
                self.assertEqual(simulation.legal_moves(), [])
                self.assertEqual(simulation.move_total(), max(sizes[end]))
                self.assertEqual(simulation.weight_total(),
                                 weight_below(given, end) - weight_below(given, source))

    def test_no_move_is_a_command_too(self):
        simulation = Simulation(NO_MOVES, (3, 1, 0))
        self.assertEqual(self.assert_reverts(simulation, "finish"), 0)
        self.assertEqual(self.assert_reverts(simulation, "finish"), 0)
        self.assertEqual([simulation.command_count(), simulation.move_total()], [2, 0])
        self.assertEqual(self.assert_reverts(self.simulation, "finish"), 10)

    def test_large_groups(self):
        simulation = Simulation(LARGE_WELL, (0,) * 12)
        self.assertEqual(self.assert_reverts(simulation, "finish"), 78 * BIG)
        self.assertEqual(simulation.move_total(), 78 * BIG)


class AddPeopleTest(CommandCase):

    def test_examples(self):
        self.assertEqual(self.simulation.add_people(4, 1), 2)
        self.setUp()
        self.simulation.add_people(3, 2)
        self.assertEqual(self.simulation.well(), (3, ((2, 2), (3, 3), (5, 2), (9, 1))))

    def test_a_new_group_at_each_place(self):
        for weight, group in (1, 0), (4, 2), (7, 3), (8, 3), (10, 4), (BIG, 4):
            simulation = Simulation(well, FULL)
            self.assertEqual(self.assert_reverts(simulation, "add_people", weight, 5), group)
            groups = well[1][:group] + ((weight, 5),) + well[1][group:]
            self.assertEqual(simulation.well(), (3, groups))
            self.assertEqual(simulation.state(), FULL[:group] + (0,) + FULL[group:])
            self.assertEqual([simulation.move_total(), simulation.weight_total()], [0, 0])

    def test_an_old_group(self):
        for group, (weight, size) in enumerate(well[1]):
            simulation = Simulation(well, FULL)
            self.assertEqual(self.assert_reverts(simulation, "add_people", weight, BIG), group)
            groups = well[1][:group] + ((weight, size + BIG),) + well[1][group + 1:]
            self.assertEqual(simulation.well(), (3, groups))
            self.assertEqual(simulation.state(), FULL)

    def test_they_are_at_the_top(self):
        simulation = Simulation(well, (2, 1, 2, 0))
        self.assertEqual(simulation.legal_moves(), [])
        simulation.add_people(2, 1)
        self.assertEqual(simulation.legal_moves(), [(0, -1)])
        simulation.add_people(6, 2)
        self.assertEqual(simulation.legal_moves(), [(0, -1), (3, 1), (3, 2)])
        self.assertEqual(simulation.finish(), 4 + 3 + 3 + 3 + 1)

    def test_twelve_groups_and_one_more(self):
        simulation = Simulation((5, TWELVE[1][:11]), (0,) * 11)
        self.assertEqual(simulation.add_people(1, 1), 0)
        self.assertEqual(len(simulation.state()), 12)
        for weight in (2, 15, 119, BIG):
            self.assert_fails(TooManyGroups, {"count": 13}, simulation, "add_people", weight, 1)
        self.assertEqual(simulation.add_people(1, 1), 0)
        self.assertEqual(simulation.add_people(110, 1), 11)
        self.assertIs(simulation.undo(), True)
        self.assertEqual(TooManyGroups.__bases__, (OverflowError,))

    def test_a_well_of_more_than_twelve_groups(self):
        simulation = Simulation((5, TWELVE[1] + ((200, 1),)), (0,) * 13)
        self.assertEqual(simulation.state(), (0,) * 13)
        self.assert_fails(TooManyGroups, {"count": 14}, simulation, "add_people", 1, 1)
        # Also if the group is there: the number of groups that would result is too large.
        self.assert_fails(TooManyGroups, {"count": 13}, simulation, "add_people", 200, 1)
        self.assertEqual(simulation.remove_people(0, 1), None)
        self.assertEqual(simulation.add_people(200, 1), 11)

    def test_names(self):
        self.assertEqual(self.simulation.add_people(count=1, weight=4), 2)


class RemovePeopleTest(CommandCase):

    def test_examples(self):
        self.simulation.remove_people(3, 1)
        self.assertEqual(self.simulation.well(), (3, ((2, 2), (3, 1), (5, 2))))
        self.setUp()
        self.assert_error(NotEnough, {"count": 1}, self.simulation.remove_people, 0, 3)

    def test_a_part_of_a_group(self):
        simulation = Simulation((3, ((2, 7), (3, 1))), (4, 1))
        self.assertIsNone(self.assert_reverts(simulation, "remove_people", 0, 2))
        self.assertEqual([simulation.well(), simulation.state()], [(3, ((2, 5), (3, 1))), (4, 1)])
        self.assertIsNone(self.assert_reverts(simulation, "remove_people", 0, 1))
        self.assertEqual(simulation.well(), (3, ((2, 4), (3, 1))))
        self.assert_fails(NotEnough, {"count": 1}, simulation, "remove_people", 0, 1)
        self.assert_fails(NotEnough, {"count": BIG}, simulation, "remove_people", 1, BIG)

    def test_a_whole_group_at_each_place(self):
        for group, (_, size) in enumerate(well[1]):
            simulation = Simulation(well, FULL[:group] + (0,) + FULL[group + 1:])
            self.assertIsNone(self.assert_reverts(simulation, "remove_people", group, size))
            self.assertEqual(simulation.well(), (3, well[1][:group] + well[1][group + 1:]))
            self.assertEqual(simulation.state(), FULL[:group] + FULL[group + 1:])
            self.assertEqual([simulation.move_total(), simulation.weight_total()], [0, 0])
            self.assert_fails(UnknownGroup, {"group": 3}, simulation, "remove_people", 3, 1)

    def test_unknown_groups(self):
        for group in (-1, -2, -4, 4, 5, HUGE, -HUGE):
            for count in (1, 7, BIG):
                self.assert_fails(UnknownGroup, {"group": group}, self.simulation,
                                  "remove_people", group, count)
        simulation = Simulation(ONE_GROUP, (0,))
        self.assert_fails(UnknownGroup, {"group": -1}, simulation, "remove_people", -1, 1)
        self.assert_fails(UnknownGroup, {"group": 1}, simulation, "remove_people", 1, 1)

    def test_the_last_people(self):
        simulation = Simulation(ONE_GROUP, (0,))
        self.assert_fails(LastPeople, {}, simulation, "remove_people", 0, 1)
        simulation = Simulation((3, ((2, 7),)), (0,))
        self.assert_fails(LastPeople, {}, simulation, "remove_people", 0, 7)
        self.assertIsNone(simulation.remove_people(0, 6))
        self.assertEqual(simulation.well(), (3, ((2, 1),)))
        self.assert_fails(LastPeople, {}, simulation, "remove_people", 0, 1)
        self.assertEqual(LastPeople.__bases__, (RuntimeError,))

    def test_not_enough_comes_before_the_last_people(self):
        self.assert_fails(NotEnough, {"count": 1}, Simulation((3, ((2, 7),)), (0,)),
                          "remove_people", 0, 8)
        self.assert_fails(NotEnough, {"count": 2}, Simulation((3, ((2, 7),)), (2,)),
                          "remove_people", 0, 7)
        self.assert_fails(NotEnough, {"count": 7}, Simulation((3, ((2, 7),)), (7,)),
                          "remove_people", 0, 7)
        self.assertEqual(NotEnough.__bases__, (RuntimeError,))

    def test_a_group_in_between_that_disappears(self):
        simulation = Simulation((2, ((2, 1), (4, 1), (6, 1))), EMPTY[:3])
        self.assertEqual(simulation.terminal_state(), (1, 1, 1))
        simulation.remove_people(1, 1)
        self.assertEqual(simulation.terminal_state(), (1, 0))
        simulation.undo()
        self.assertEqual(simulation.terminal_state(), (1, 1, 1))

    def test_large_groups_and_names(self):
        simulation = Simulation(LARGE_WELL, (0,) * 12)
        self.assertIsNone(simulation.remove_people(count=BIG - 1, group=0))
        self.assertEqual(simulation.well()[1][0], (BIG - 11, 1))
        self.assertEqual(len(simulation), 11 * BIG + 1)


class SetLimitTest(CommandCase):

    def test_example(self):
        self.assertEqual(self.simulation.set_limit(4), 3)

    def test_the_new_limit_holds(self):
        self.assertEqual(self.assert_reverts(self.simulation, "set_limit", 4), 3)
        self.assertEqual(self.simulation.well(), (4, well[1]))
        self.assertEqual(self.simulation.terminal_state(), FULL)
        self.assertEqual(self.simulation.min_moves((0, 0, 0, 1)), 3)
        self.assertEqual(self.simulation.set_limit(1), 4)
        self.assertEqual(self.simulation.legal_moves(), [])
        self.assertEqual(self.simulation.set_limit(BIG), 1)
        self.assertEqual(self.simulation.min_moves((0, 0, 0, 1)), 1)
        self.assertEqual(self.simulation.set_limit(limit=BIG), BIG)
        self.assertEqual(self.simulation.command_count(), 4)


class UndoTest(CommandCase):

    def test_example(self):
        self.assertIs(self.simulation.undo(), False)

    def test_every_command_in_turn(self):
        simulation, seen = self.simulation, []
        steps = [("move", 0, -1), ("set_limit", 4), ("goto", (0, 0, 1, 0)), ("add_people", 4, 3),
                 ("finish",), ("goto", (2, 1, 3, 2, 1))]
        for name, *arguments in steps:
            seen.append(snapshot(simulation))
            getattr(simulation, name)(*arguments)
        self.assertEqual(simulation.command_count(), 6)
        for before in reversed(seen):
            self.assertIs(simulation.undo(), True)
            self.assertEqual(snapshot(simulation), before)
        for _ in range(3):
            self.assertIs(simulation.undo(), False)
            self.assertEqual(snapshot(simulation), seen[0])

    def test_a_failed_command_is_not_undone(self):
        self.simulation.move(0, -1)
        self.assert_fails(IllegalMove, {"pair": (2, 1)}, self.simulation, "move", 2, 1)
        self.assertIs(self.simulation.undo(), True)
        self.assertEqual(self.simulation.state(), EMPTY)
        self.assertIs(self.simulation.undo(), False)

    def test_sixty_commands(self):
        simulation = Simulation(LARGE_WELL, (0,) * 12)
        for number in range(60):
            simulation.move(number % 12, -1, count=number + 1)
        self.assertEqual(simulation.command_count(), 60)
        self.assertEqual(simulation.move_total(), 60 * 61 // 2)
        for number in reversed(range(60)):
            self.assertIs(simulation.undo(), True)
            self.assertEqual(simulation.move_total(), number * (number + 1) // 2)
        self.assertEqual(simulation.state(), (0,) * 12)


if __name__ == "__main__":
    unittest.main()
