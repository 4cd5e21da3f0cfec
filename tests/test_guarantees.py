"""The guarantees of [1] over the whole program, with random commands and their plain model."""

import random
import unittest

from checks import ErrorCase
from samples import SMALL_WELLS, all_states, well
from search import after_move, legal_pairs, reachable_from, sizes_from, weight_below
from wellfolk import errors
from wellfolk.commands import run_commands
from wellfolk.counting import count_sequences, sequence_at
from wellfolk.covers import min_moves, move_counts
from wellfolk.crossing import descent_bounds, max_moves
from wellfolk.lattice import are_compatible, join, meet
from wellfolk.potentials import optimal_potential, potential_gain
from wellfolk.reach import obstruction, terminal_state
from wellfolk.sequences import count_moves, is_move_sequence
from wellfolk.simulation import Simulation
from wellfolk.texts import format_moves, format_well, parse_well

NAMES = ("move", "goto", "finish", "add_people", "remove_people", "set_limit")


class Model:
    """What the document says of the six commands, by a search over all legal moves."""

    def __init__(self, given, state):
        self.now = (given, state, 0, 0)
        self.past = []

    def run(self, name, *arguments):
        """Execute a command and return its result, or the error that it must raise."""
        given, state, _, _ = self.now
        result = getattr(self, "after_" + name)(given, state, *arguments)
        if isinstance(result, Exception):
            return result
        answer, given, later, moves = result
        weight = 0
        if moves:
            weight = weight_below(given, later) - weight_below(given, state)
        self.past.append(self.now)
        self.now = (given, later, self.now[2] + moves, self.now[3] + weight)
        return answer

    def undo(self):
        if not self.past:
            return False
        self.now = self.past.pop()
        return True

    def after_move(self, given, state, down, up, count=1):
        later = state
        for _ in range(count):
            if (down, up) not in legal_pairs(given, later):
                return errors.IllegalMove((down, up))
            later = after_move(later, (down, up))
        return weight_below(given, later) - weight_below(given, state), given, later, count

    def after_goto(self, given, state, target):
        sizes = sizes_from(given, state)
        if target not in sizes:
            return errors.Unreachable(obstruction(given, state, target))
        return min(sizes[target]), given, target, min(sizes[target])

    def after_finish(self, given, state):
        sizes = sizes_from(given, state)
        end, = [one for one in sizes if not legal_pairs(given, one)]
        return max(sizes[end]), given, end, max(sizes[end])

    def after_add_people(self, given, state, weight, count):
        people = {heavy: [size, bottom] for (heavy, size), bottom in zip(given[1], state)}
        people.setdefault(weight, [0, 0])[0] += count
        given, state = self.put(given[0], people)
        if len(state) > 12:
            return errors.TooManyGroups(len(state))
        return sorted(people).index(weight), given, state, 0

    def after_remove_people(self, given, state, group, count):
        if group not in range(len(state)):
            return errors.UnknownGroup(group)
        weight, size = given[1][group]
        if size - state[group] < count:
            return errors.NotEnough(count - size + state[group])
        if sum(size for _, size in given[1]) == count:
            return errors.LastPeople()
        people = {heavy: [size, bottom] for (heavy, size), bottom in zip(given[1], state)}
        people[weight][0] -= count
        given, state = self.put(given[0], {heavy: numbers for heavy, numbers in people.items()
                                           if numbers[0]})
        return None, given, state, 0

    def after_set_limit(self, given, state, limit):
        return given[0], (limit, given[1]), state, 0

    def put(self, limit, people):
        """Return the WELL and the STATE with these people."""
        groups = tuple((weight, people[weight][0]) for weight in sorted(people))
        return (limit, groups), tuple(people[weight][1] for weight in sorted(people))


def random_command(chance, given, state):
    """Return a command, right or wrong, for a WELL in a STATE."""
    name = chance.choice(NAMES)
    if name == "move":
        pairs = legal_pairs(given, state) * 3 + [(chance.randint(-2, 5), chance.randint(-3, 5))]
        return (name,) + chance.choice(pairs) + chance.choice([(), (1,), (2,)])
    if name == "goto":
        return name, chance.choice(sorted(reachable_from(given, state)) + all_states(given)[:2])
    if name == "add_people":
        return name, chance.randint(1, 9), chance.randint(1, 2)
    if name == "remove_people":
        return name, chance.randint(-1, len(state)), chance.randint(1, 2)
    return (name,) + ((chance.randint(1, 6),) if name == "set_limit" else ())


class SimulationTest(ErrorCase):

    def call(self, simulation, name, *arguments):
        """Return the result of a command, or the error that it raises."""
        named = {}
        if name == "move" and len(arguments) == 3:
            named["count"], arguments = arguments[2], arguments[:2]
        try:
            return getattr(simulation, name)(*arguments, **named)
        except (ValueError, LookupError, RuntimeError, OverflowError) as error:
            return error

    def assert_same(self, first, second):
        if isinstance(second, Exception):
            first, second = (type(first), vars(first)), (type(second), vars(second))
        self.assertEqual(first, second)

    def assert_at(self, simulation, moment):
        """Check that a Simulation answers as a new one would at a moment of the model."""
        given, state, moves, weight = moment
        new = Simulation(given, state)
        self.assertEqual([simulation.well(), simulation.state(), simulation.move_total(),
                          simulation.weight_total()], [given, state, moves, weight])
        self.assertEqual([simulation.legal_moves(), simulation.terminal_state(), len(simulation),
                          repr(simulation)],
                         [new.legal_moves(), new.terminal_state(), len(new), repr(new)])
        self.assertEqual(simulation.legal_moves(), legal_pairs(given, state))

    def batch(self, chance, simulation, model):
        """Execute a batch of random commands in a Simulation and in its model."""
        start, depth, commands, results = model.now, len(model.past), [], []
        for _ in range(chance.randint(0, 4)):
            commands.append(random_command(chance, *model.now[:2]))
            results.append(model.run(*commands[-1]))
            if isinstance(results[-1], Exception):
                break
        failed = bool(results) and isinstance(results[-1], Exception)
        atomic, log = chance.random() < 0.5, simulation.log()
        try:
            self.assertEqual(simulation.batch(commands, atomic=atomic), results)
        except (errors.IllegalMove, errors.Unreachable, errors.UnknownGroup, errors.NotEnough,
                errors.LastPeople, errors.TooManyGroups) as error:
            self.assert_same(error, results[-1])
        inner = [(word, name) for name, *_ in commands for word in ("begin", "end")]
        self.assertEqual(simulation.log(),
                         log + [("begin", "batch")] + inner + [("end", "batch")])
        del model.past[depth:]
        if failed and (atomic or len(results) == 1):
            model.now = start
        else:
            model.past.append(start)

    def test_h_random_commands(self):
        for seed in range(60):
            chance = random.Random(seed)
            given = chance.choice(SMALL_WELLS)
            state = chance.choice(all_states(given))
            simulation, model = Simulation(given, state), Model(given, state)
            for _ in range(25):
                # Few people, so that the search stays short.
                if len(simulation) > 9 or chance.random() < 0.25:
                    self.assertIs(simulation.undo(), model.undo())
                elif chance.random() < 0.3:
                    self.batch(chance, simulation, model)
                else:
                    command = random_command(chance, *model.now[:2])
                    self.assert_same(self.call(simulation, *command), model.run(*command))
                self.assert_at(simulation, model.now)
                self.assertEqual(simulation.command_count(), len(model.past))
            moments = model.past + [model.now]
            for depth, moment in enumerate(moments):
                self.assert_at(simulation.at_depth(depth), moment)
            self.assertEqual(simulation.copy(), simulation)
            for moment in reversed(model.past):
                self.assertIs(simulation.undo(), True)
                self.assert_at(simulation, moment)

    def test_texts_give_the_same_answers(self):
        words = {"remove_people": lambda result: "ok"}
        for seed in range(30):
            chance = random.Random(seed)
            given = chance.choice(SMALL_WELLS)
            simulation = Simulation(given, (0,) * len(given[1]))
            lines, expected = [format_well(given, simulation.state())], []
            while len(lines) < 30 and len(simulation) <= 9:
                name, *numbers = random_command(chance, simulation.well(), simulation.state())
                if min(numbers[1:2] + [0]) < -1 or (numbers[:1] in ([-1], [-2])):
                    continue
                result = self.call(simulation, name, *numbers)
                written = numbers[0] if name == "goto" else numbers
                lines.append(" ".join([name] + ["-" if n == -1 else str(n) for n in written]))
                if isinstance(result, Exception):
                    expected.append("error " + type(result).__name__)
                else:
                    expected.append(words.get(name, str)(result))
                lines.append(chance.choice(["show", "legal", "total"]))
                expected.append({"show": format_well(simulation.well(), simulation.state()),
                                 "legal": format_moves(simulation.legal_moves()),
                                 "total": str(simulation.move_total())}[lines[-1]])
            self.assertEqual(run_commands("\n".join(lines)), expected)


class ModulesTest(ErrorCase):

    def test_a_one_terminal_state(self):
        for given in SMALL_WELLS:
            for source in all_states(given):
                ends = {terminal_state(given, state) for state in reachable_from(given, source)}
                self.assertEqual(ends, {terminal_state(given, source)})

    def test_b_join_and_meet(self):
        for first in all_states(well)[::2]:
            for second in all_states(well)[::3]:
                if are_compatible(well, first, second):
                    above, below = join(well, first, second), meet(well, first, second)
                    for state in (first, second):
                        self.assertLessEqual(max_moves(well, state, above),
                                             max_moves(well, below, above))
                        self.assertIsNone(obstruction(well, below, state))

    def test_c_e_g_the_sequences_of_each_length(self):
        source = (0, 0, 0, 0)
        for target in reachable_from(well, source):
            least, most = min_moves(well, source, target), max_moves(well, source, target)
            best = optimal_potential(well, source, target)
            self.assertEqual(potential_gain(well, best, source, target), least)
            bounds = descent_bounds(well, source, target)
            for size in range(least, most + 1):
                number = count_sequences(well, source, target, size)
                for index in {0, number // 2, number - 1}:
                    moves = sequence_at(well, source, target, size, index)
                    self.assertIs(is_move_sequence(well, source, target, moves), True)
                    for group, (fewest, longest) in enumerate(bounds):
                        descents = sum(down == group for down, _ in moves)
                        self.assertTrue(fewest <= descents <= longest)
                counts = move_counts(well, source, target, size=size)
                found = {tuple(count_moves(sequence_at(well, source, target, size, index)))
                         for index in range(min(number, 400))}
                self.assertTrue(tuple(counts) in found or number > 400)

    def test_values_of_one_module_are_arguments_of_another(self):
        for given in SMALL_WELLS:
            for state in all_states(given)[::4]:
                simulation = Simulation(*parse_well(format_well(given, state)))
                number = simulation.goto(simulation.terminal_state())
                self.assertEqual(number, simulation.move_total())
                self.assertEqual(simulation.at_depth(0).min_moves(simulation.state()), number)


if __name__ == "__main__":
    unittest.main()
