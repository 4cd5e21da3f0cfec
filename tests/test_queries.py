"""simulation.py, promise [15]: the queries, with the conventions of [2] and [3]."""

import inspect
import unittest

from samples import BIG, HUGE, LARGE_WELL, SMALL_WELLS, WELL_OF_LISTS, all_states, well
from search import legal_pairs, reachable_from, sizes_from, weight_below
from test_simulation import EMPTY, CommandCase, snapshot
from wellfolk.errors import (IllegalMove, InvalidCommand, NoSuchDepth, NotEnough, UnknownGroup,
                             Unreachable)
from wellfolk.reach import obstruction
from wellfolk.simulation import Simulation


def pairs(*words):
    """Return the log in which the words began, and ended where they stand with a dash."""
    return [("end", word[1:]) if word.startswith("-") else ("begin", word) for word in words]


class AnswersTest(CommandCase):

    def test_examples(self):
        self.simulation.move(1, -1)
        self.simulation.move(2, 1)
        self.assertEqual([self.simulation.state(), self.simulation.move_total(),
                          self.simulation.weight_total()], [(0, 0, 1, 0), 2, 5])
        self.setUp()
        self.assertEqual(self.simulation.legal_moves(), [(0, -1), (1, -1)])
        self.assertEqual(self.simulation.terminal_state(), (2, 1, 2, 0))
        self.assertEqual(self.simulation.min_moves((0, 0, 1, 0)), 2)
        self.simulation.move(0, -1)
        self.simulation.undo()
        self.assertEqual(self.simulation.command_count(), 0)

    def test_what_a_search_finds(self):
        for given in SMALL_WELLS[:12]:
            for state in all_states(given)[::2]:
                simulation, sizes = Simulation(given, state), sizes_from(given, state)
                self.assertEqual(simulation.legal_moves(), legal_pairs(given, state))
                self.assertEqual(simulation.terminal_state(),
                                 max(sizes, key=lambda one: weight_below(given, one)))
                for target in all_states(given):
                    if target in sizes:
                        self.assertEqual(simulation.min_moves(target), min(sizes[target]))
                    else:
                        self.assert_error(Unreachable,
                                          {"reason": obstruction(given, state, target)},
                                          simulation.min_moves, target)

    def test_the_totals_of_the_commands_in_effect_only(self):
        simulation = self.simulation
        simulation.move(0, -1, count=2)
        simulation.goto((0, 0, 2, 0))
        self.assertEqual([simulation.move_total(), simulation.weight_total()], [4, 10])
        self.assert_error(IllegalMove, {"pair": (2, 1)}, simulation.move, 2, 1)
        simulation.finish()
        self.assertEqual([simulation.move_total(), simulation.weight_total()], [8, 17])
        simulation.undo()
        self.assertEqual([simulation.move_total(), simulation.weight_total()], [4, 10])
        simulation.remove_people(0, 2)
        simulation.add_people(1, 4)
        self.assertEqual([simulation.move_total(), simulation.weight_total()], [4, 10])

    def test_queries_change_nothing(self):
        self.simulation.move(0, -1)
        before, log = snapshot(self.simulation), self.simulation.log()
        for _ in range(2):
            self.assert_error(Unreachable, {"reason": ("fewer", 0)}, self.simulation.min_moves,
                              EMPTY)
            self.assert_error(NoSuchDepth, {"depth": 2}, self.simulation.at_depth, 2)
            self.assertEqual(snapshot(self.simulation), before)
            self.assertEqual(self.simulation.log(), log)

    def test_changed_results_have_no_effect(self):
        self.simulation.move(0, -1)
        self.simulation.legal_moves().clear()
        self.simulation.log().clear()
        self.assertEqual(self.simulation.legal_moves(), legal_pairs(well, (1, 0, 0, 0)))
        self.assertEqual(self.simulation.log(), pairs("move", "-move"))

    def test_kinds(self):
        simulation = Simulation(WELL_OF_LISTS, [0, 0, 0, 0])
        self.assertEqual([type(simulation.well()), type(simulation.well()[1]),
                          type(simulation.state()), type(simulation.terminal_state())],
                         [tuple] * 4)
        self.assert_lists(simulation.legal_moves())
        self.assertEqual(self.assert_unchanged(simulation.min_moves, [0, 0, 1, 0]), 2)
        self.assertEqual(simulation.min_moves(state=(0, 0, 1, 0)), 2)

    def test_large_groups(self):
        simulation = Simulation(LARGE_WELL, (0,) * 12)
        self.assertEqual(simulation.terminal_state(), (BIG,) * 12)
        self.assertEqual(simulation.min_moves((BIG,) * 12), 12 * BIG)
        self.assertEqual(simulation.legal_moves(), [(group, -1) for group in range(12)])


class AtDepthTest(CommandCase):

    def test_examples(self):
        self.simulation.move(0, -1)
        self.assertEqual(self.simulation.at_depth(0).state(), EMPTY)
        self.setUp()
        self.assert_error(NoSuchDepth, {"depth": 1}, self.simulation.at_depth, 1)
        self.assertEqual(NoSuchDepth.__bases__, (LookupError,))

    def steps(self):
        simulation = self.simulation
        simulation.move(0, -1, count=2)
        simulation.batch([("set_limit", 4), ("add_people", 4, 3), ("move", 1, 0)])
        self.assert_error(NotEnough, {"count": 1}, simulation.remove_people, 1, 1)
        simulation.finish()
        simulation.undo()
        simulation.remove_people(2, 3)
        simulation.goto((1, 1, 0, 1))
        return simulation

    def test_each_depth(self):
        simulation = self.steps()
        wells = [well, well, (4, ((2, 2), (3, 1), (4, 3), (5, 2), (9, 1))), (4, well[1]),
                 (4, well[1])]
        states = [EMPTY, (2, 0, 0, 0), (1, 1, 0, 0, 0), (1, 1, 0, 0), (1, 1, 0, 1)]
        totals = [(0, 0), (2, 4), (3, 5), (3, 5), (6, 14)]
        for depth in range(5):
            earlier = simulation.at_depth(depth)
            self.assertEqual([earlier.well(), earlier.state(), earlier.command_count()],
                             [wells[depth], states[depth], depth])
            self.assertEqual((earlier.move_total(), earlier.weight_total()), totals[depth])
            self.assertEqual(earlier.log(), [])
            for left in reversed(range(depth)):
                self.assertIs(earlier.undo(), True)
                self.assertEqual(earlier.state(), states[left])
            self.assertIs(earlier.undo(), False)
            self.assertEqual(earlier.log(), pairs("undo", "-undo") * (depth + 1))

    def test_no_such_depth(self):
        simulation = self.steps()
        for depth in (-1, 5, 6, -5, HUGE, -HUGE):
            self.assert_error(NoSuchDepth, {"depth": depth}, simulation.at_depth, depth)
        simulation.undo()
        self.assert_error(NoSuchDepth, {"depth": 4}, simulation.at_depth, 4)
        self.assertEqual(simulation.at_depth(depth=3), simulation)

    def test_they_are_independent(self):
        simulation = self.steps()
        before, log = snapshot(simulation), simulation.log()
        for earlier in [simulation.copy()] + [simulation.at_depth(depth) for depth in range(5)]:
            earlier.finish()
            earlier.set_limit(1)
            while earlier.undo():
                pass
            earlier.move(1, -1)
            self.assertEqual(snapshot(simulation), before)
            self.assertEqual(simulation.log(), log)
        earlier = simulation.at_depth(2)
        kept = snapshot(earlier)
        simulation.undo()
        simulation.undo()
        simulation.undo()
        simulation.move(1, -1)
        self.assertEqual(snapshot(earlier), kept)
        self.assertEqual(earlier.log(), [])

    def test_copy(self):
        self.assertIs(self.simulation.copy() == self.simulation, True)
        simulation = self.steps()
        copied = simulation.copy()
        self.assertIsNot(copied, simulation)
        self.assertIs(type(copied), Simulation)
        self.assertEqual(snapshot(copied), snapshot(simulation))
        self.assertEqual(copied.log(), [])
        self.assertIs(copied == simulation, True)


class LogTest(CommandCase):

    def test_example(self):
        self.simulation.move(0, -1)
        self.assertEqual(self.simulation.log(), [("begin", "move"), ("end", "move")])

    def test_every_command(self):
        simulation, words = self.simulation, []
        for name, arguments in (("move", (0, -1)), ("goto", ((0, 1, 0, 0),)), ("finish", ()),
                                ("add_people", (4, 1)), ("remove_people", (2, 1)),
                                ("set_limit", (5,)), ("undo", ()), ("batch", ([],))):
            getattr(simulation, name)(*arguments)
            words += [name, "-" + name]
            self.assertEqual(simulation.log(), pairs(*words))
        for pair in simulation.log():
            self.assertEqual([type(pair), type(pair[0]), type(pair[1])], [tuple, str, str])

    def test_failing_commands(self):
        simulation = self.simulation
        self.assert_error(IllegalMove, {"pair": (0, 0)}, simulation.move, 0, 0)
        self.assert_error(Unreachable, {"reason": ("more", 3)}, simulation.goto, (0, 0, 0, 1))
        self.assert_error(UnknownGroup, {"group": -1}, simulation.remove_people, -1, 1)
        self.assertIs(simulation.undo(), False)
        self.assertEqual(simulation.log(), pairs("move", "-move", "goto", "-goto",
                                                 "remove_people", "-remove_people", "undo",
                                                 "-undo"))

    def test_commands_inside_a_batch(self):
        self.simulation.batch([("move", 0, -1), ("set_limit", 4), ("finish",)])
        self.assertEqual(self.simulation.log(), pairs("batch", "move", "-move", "set_limit",
                                                      "-set_limit", "finish", "-finish", "-batch"))

    def test_a_failing_batch(self):
        for atomic in (True, False):
            simulation = Simulation(well, EMPTY)
            self.assert_error(IllegalMove, {"pair": (0, 0)}, simulation.batch,
                              [("finish",), ("move", 0, 0), ("set_limit", 4)], atomic=atomic)
            expected = pairs("batch", "finish", "-finish", "move", "-move", "-batch")
            self.assertEqual(simulation.log(), expected)
            self.assert_error(InvalidCommand, {"index": 1}, simulation.batch,
                              [("finish",), ("jump",)], atomic=atomic)
            expected += pairs("batch", "-batch")
            self.assertEqual(simulation.log(), expected)
            simulation.undo()
            self.assertEqual(simulation.log(), expected + pairs("undo", "-undo"))

    def test_queries_are_not_logged(self):
        snapshot(self.simulation)
        self.simulation.copy()
        self.assertEqual(self.simulation.log(), [])


class EqualityTest(CommandCase):

    def assert_equal(self, first, second, expected):
        self.assertIs(first == second, expected)
        self.assertIs(second == first, expected)
        self.assertIs(first != second, not expected)

    def test_well_state_and_move_total(self):
        other = Simulation(WELL_OF_LISTS, [0, 0, 0, 0])
        self.assert_equal(self.simulation, other, True)
        other.move(0, -1)
        self.assert_equal(self.simulation, other, False)
        self.simulation.move(0, -1)
        self.assert_equal(self.simulation, other, True)
        # The same well and state, but with other numbers of MOVEs.
        self.assert_equal(Simulation(well, (1, 0, 0, 0)), other, False)
        other.set_limit(4)
        self.assert_equal(self.simulation, other, False)
        other.set_limit(3)
        self.assert_equal(self.simulation, other, True)
        self.assertEqual(other.command_count(), 3)

    def test_different_ways(self):
        first, second = self.simulation, Simulation(well, EMPTY)
        for move in ((0, -1), (1, 0)):
            first.move(*move)
        second.move(1, -1)
        self.assert_equal(first, second, False)
        first.goto((0, 0, 1, 0))
        second.move(0, -1)
        self.assert_equal(first, second, False)
        third = Simulation(well, (0, 0, 1, 0))
        third.move(0, -1)
        third.move(0, -1)
        third.move(1, 0)
        self.assert_equal(first, third, False)

    def test_the_weight_total_does_not_matter(self):
        first = Simulation((5, ((2, 5), (3, 5))), (0, 0))
        second = Simulation((5, ((2, 5), (3, 5))), (0, 0))
        first.move(0, -1)
        second.move(1, -1)
        self.assert_equal(first, second, False)
        for simulation, weight in (first, 2), (second, 3):
            simulation.finish()
            self.assertEqual(simulation.state(), (5, 5))
        self.assert_equal(first, second, first.move_total() == second.move_total())
        first, second = Simulation((5, ((2, 1),)), (0,)), Simulation((5, ((2, 1),)), (1,))
        first.finish()
        second.add_people(1, 1)
        second.finish()
        first.add_people(1, 1)
        self.assert_equal(first, second, False)
        third = Simulation((5, ((1, 1), (2, 1))), (0, 1))
        third.finish()
        self.assertEqual([second.weight_total(), third.weight_total()], [1, 1])
        self.assert_equal(second, third, True)

    def test_other_kinds(self):
        for other in (None, True, 0, 6, "", repr(self.simulation), (), [], well, EMPTY,
                      (well, EMPTY, 0), (well, EMPTY, 0, 0), object(), Simulation):
            self.assert_equal(self.simulation, other, False)


class LenAndReprTest(CommandCase):

    def test_example(self):
        self.assertEqual([len(self.simulation), repr(self.simulation)],
                         [6, "Simulation(4 groups, 6 people)"])

    def test_always_the_plural(self):
        simulation = Simulation((1, ((1, 1),)), (0,))
        self.assertEqual([len(simulation), repr(simulation)],
                         [1, "Simulation(1 groups, 1 people)"])

    def test_large_groups(self):
        simulation = Simulation(LARGE_WELL, (0,) * 12)
        self.assertEqual(len(simulation), 12 * BIG)
        self.assertEqual(repr(simulation), "Simulation(12 groups, 12000000000000 people)")

    def test_after_commands(self):
        self.simulation.add_people(4, 3)
        self.assertEqual(repr(self.simulation), "Simulation(5 groups, 9 people)")
        self.simulation.remove_people(0, 2)
        self.assertEqual([len(self.simulation), repr(self.simulation)],
                         [7, "Simulation(4 groups, 7 people)"])
        self.simulation.finish()
        self.assertEqual(len(self.simulation), 7)
        self.simulation.undo()
        self.simulation.undo()
        self.simulation.undo()
        self.assertEqual([len(self.simulation), bool(self.simulation)], [6, True])


class MethodsTest(unittest.TestCase):

    def test_each_is_defined_in_the_class_itself(self):
        expected = {
            "__init__": "(self, well, state)", "move": "(self, down, up, *, count=1)",
            "goto": "(self, state)", "finish": "(self)", "add_people": "(self, weight, count)",
            "remove_people": "(self, group, count)", "set_limit": "(self, limit)",
            "batch": "(self, commands, *, atomic=True)", "undo": "(self)", "well": "(self)",
            "state": "(self)", "move_total": "(self)", "weight_total": "(self)",
            "legal_moves": "(self)", "terminal_state": "(self)", "min_moves": "(self, state)",
            "command_count": "(self)", "at_depth": "(self, depth)", "copy": "(self)",
            "log": "(self)", "__eq__": "(self, other)", "__len__": "(self)", "__repr__": "(self)",
        }
        for name, parameters in expected.items():
            self.assertIn(name, vars(Simulation))
            self.assertEqual(str(inspect.signature(vars(Simulation)[name])), parameters, name)

    def test_reachable_states_are_those_to_which_goto_leads(self):
        for source in all_states(well)[::4]:
            simulation = Simulation(well, source)
            for target in reachable_from(well, source):
                self.assertEqual(simulation.at_depth(0).goto(target),
                                 simulation.min_moves(target))


if __name__ == "__main__":
    unittest.main()
