"""simulation.py, promise [14]: batches, with the conventions of [2] and [3]."""

import unittest

from checks import OTHER_KINDS
from samples import BIG, HUGE, LARGE_WELL, well
from test_simulation import EMPTY, CommandCase, snapshot
from wellfolk.errors import (IllegalMove, InvalidCommand, LastPeople, NotEnough, TooManyGroups,
                             UnknownGroup, Unreachable)
from wellfolk.simulation import Simulation

# One of each kind, legal in this order from the empty STATE.
ALL = [("move", 0, -1), ("move", 1, -1, 1), ("goto", (0, 1, 1, 0)), ("set_limit", 4),
       ("add_people", 4, 3), ("finish",), ("add_people", 1, 2), ("remove_people", 0, 1),
       ("set_limit", 2)]
RESULTS = [2, 3, 1, 3, 2, 20, 0, None, 4]
# Commands that fail, each with its error, whatever came before it.
FAILING = [(("move", 3, 3), IllegalMove, {"pair": (3, 3)}),
           (("move", -1, -1, 5), IllegalMove, {"pair": (-1, -1)}),
           (("move", 0, -1, BIG), IllegalMove, {"pair": (0, -1)}),
           (("remove_people", -1, 1), UnknownGroup, {"group": -1}),
           (("remove_people", HUGE, 1), UnknownGroup, {"group": HUGE})]


class BatchTest(CommandCase):

    def test_examples(self):
        commands = [("move", 0, -1), ("set_limit", 4)]
        self.assertEqual(self.simulation.batch(commands), [2, 3])
        self.setUp()
        self.assert_error(InvalidCommand, {"index": 1}, self.simulation.batch,
                          [("move", 0, -1), ("jump", 2)])

    def test_one_of_each_kind_as_a_single_command(self):
        for atomic in (True, False):
            simulation = Simulation(well, EMPTY)
            self.assertEqual(self.assert_reverts(simulation, "batch", ALL, atomic=atomic),
                             RESULTS)
            self.assertEqual(simulation.command_count(), 1)

    def test_the_same_as_the_commands_one_by_one(self):
        self.simulation.batch(ALL)
        other = Simulation(well, EMPTY)
        self.assertEqual([getattr(other, name)(*arguments) if name != "move" or len(arguments) < 3
                          else other.move(*arguments[:2], count=arguments[2])
                          for name, *arguments in ALL], RESULTS)
        self.assertEqual(snapshot(self.simulation)[-1], snapshot(other)[-1])
        self.assertEqual(self.simulation, other)

    def test_an_empty_batch_is_a_command_too(self):
        for atomic in (True, False):
            for commands in ([], ()):
                self.assertEqual(self.assert_reverts(self.simulation, "batch", commands,
                                                     atomic=atomic), [])
        self.assertEqual(self.simulation.command_count(), 4)
        self.assertEqual(self.simulation.state(), EMPTY)

    def test_failing_at_each_place(self):
        for at in range(len(ALL) + 1):
            for failing, kind, fields in FAILING:
                commands = ALL[:at] + [failing] + ALL[at:]
                for before in ([], [("move", 0, -1), ("undo",)]):
                    self.assert_fails_and_keeps(before, commands, at, kind, fields)

    def assert_fails_and_keeps(self, before, commands, at, kind, fields):
        simulation = Simulation(well, EMPTY)
        for name, *arguments in before:
            getattr(simulation, name)(*arguments)
        kept = snapshot(simulation)
        self.assert_error(kind, fields, simulation.batch, commands)
        self.assertEqual(snapshot(simulation), kept)
        self.assert_error(kind, fields, simulation.batch, commands, atomic=False)
        if at == 0:
            self.assertEqual(snapshot(simulation), kept)
            return
        other = Simulation(well, EMPTY)
        other.batch(commands[:at])
        self.assertEqual(snapshot(simulation), snapshot(other))
        self.assertEqual(simulation.command_count(), 1)
        self.assertIs(simulation.undo(), True)
        self.assertEqual(snapshot(simulation), kept)

    def test_each_error(self):
        rows = [([("goto", (0, 0, 0, 1))], Unreachable, {"reason": ("more", 3)}),
                ([("move", 0, -1), ("goto", EMPTY)], Unreachable, {"reason": ("fewer", 0)}),
                ([("remove_people", 0, 3)], NotEnough, {"count": 1}),
                ([("remove_people", 0, 2), ("remove_people", 0, 1), ("remove_people", 1, 1),
                  ("remove_people", 0, 2)], LastPeople, {}),
                ([("add_people", 10 + k, 1) for k in range(9)], TooManyGroups, {"count": 13}),
                ([("set_limit", 1), ("move", 0, -1)], IllegalMove, {"pair": (0, -1)})]
        for commands, kind, fields in rows:
            simulation = Simulation(well, EMPTY)
            before = snapshot(simulation)
            self.assert_error(kind, fields, simulation.batch, commands)
            self.assertEqual(snapshot(simulation), before)
            log = [entry for name, *_ in commands for entry in (("begin", name), ("end", name))]
            self.assertEqual(simulation.log(), [("begin", "batch")] + log + [("end", "batch")])
            self.assert_error(kind, fields, simulation.batch, commands, atomic=False)
            self.assertEqual(simulation.command_count(), int(len(commands) > 1))

    def test_the_limits_of_the_next_batch(self):
        simulation = Simulation(LARGE_WELL, (0,) * 12)
        commands = [("move", group, -1, BIG) for group in range(12)]
        self.assertEqual(simulation.batch(commands),
                         [BIG * weight for weight, _ in LARGE_WELL[1]])
        self.assertEqual([simulation.move_total(), simulation.command_count()], [12 * BIG, 1])
        self.assertIs(simulation.undo(), True)
        self.assertEqual([simulation.move_total(), simulation.weight_total()], [0, 0])

    def test_lists_and_names(self):
        commands = (["move", 1, -1], ["goto", [0, 0, 1, 0]], ("finish",))
        result = self.assert_unchanged(self.simulation.batch, commands)
        self.assertEqual(result, [3, 1, 7])
        self.assertIs(type(result), list)
        commands[1][1][0] = 2
        self.assertEqual(self.simulation.undo(), True)
        self.assertEqual(self.simulation.batch(atomic=True, commands=[["set_limit", 9]]), [3])
        self.assertRaises(TypeError, self.simulation.batch, [], True)

    def test_a_state_that_is_changed_later(self):
        state = [0, 1, 1, 0]
        self.simulation.batch([["goto", state]])
        state[0] = 2
        self.assertEqual(self.simulation.state(), (0, 1, 1, 0))


class InvalidCommandTest(CommandCase):

    def assert_invalid(self, index, commands):
        self.simulation.move(0, -1)
        for atomic in (True, False):
            self.assert_fails(InvalidCommand, {"index": index}, self.simulation, "batch",
                              commands, atomic=atomic)
        self.assertIs(self.simulation.undo(), True)

    def test_elements_of_any_kind(self):
        for element in OTHER_KINDS + [[], "finish", "move", ("finish", ()), (("finish",),),
                                      (["finish"],), [["finish"]], (None, "finish"),
                                      ("Finish",), ("finish ",), ("", ), (True,), (0, -1)]:
            self.assert_invalid(0, [element])
            self.assert_invalid(2, [("move", 0, -1), ("finish",), element, ("jump",)])

    def test_unknown_names(self):
        for name in ("jump", "undo", "batch", "log", "copy", "state", "well", "min_moves",
                     "at_depth", "_run", "__init__", "", "MOVE", "move "):
            for arguments in ((), (0,), (0, -1), (0, -1, 1), ([],)):
                self.assert_invalid(0, [(name,) + arguments])
                self.assert_invalid(1, [["finish"], [name] + list(arguments)])

    def test_the_number_of_arguments(self):
        right = {"move": (2, 3), "goto": (1,), "finish": (0,), "add_people": (2,),
                 "remove_people": (2,), "set_limit": (1,)}
        for name, numbers in right.items():
            for number in range(6):
                if number not in numbers:
                    self.assert_invalid(0, [(name,) + (1,) * number])
                    self.assert_invalid(1, [("set_limit", 9), [name] + [1] * number])

    def test_the_first_of_several(self):
        self.assert_invalid(1, [("finish",), ("jump",), ("finish", 1), None])
        self.assert_invalid(0, [None, ("jump",)])
        self.assert_invalid(11, [("finish",)] * 11 + [("finish", None)])

    def test_it_comes_before_any_execution(self):
        self.assert_invalid(2, [("move", 0, 0), ("goto", (0, 0, 0, 1)), ("jump",)])
        self.assert_invalid(1, [("remove_people", 9, 9), 7])
        self.assertEqual(InvalidCommand.__bases__, (ValueError,))

    def test_arguments_are_not_checked_further(self):
        for command in (("move", None, "x"), ("set_limit", None), ("goto", None)):
            self.assert_invalid(1, [command, ("jump",)])


if __name__ == "__main__":
    unittest.main()
