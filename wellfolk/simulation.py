"""A simulation of a well, with commands that can be undone ([14] and [15])."""

from wellfolk.actions import ACTIONS, ARGUMENT_NUMBERS, MOVES, STATE, WEIGHT, WELL, first_moment
from wellfolk.covers import min_moves
from wellfolk.errors import InvalidCommand, NoSuchDepth
from wellfolk.moves import legal_moves
from wellfolk.reach import terminal_state
from wellfolk.wells import total_size


class Simulation:
    """A WELL in a STATE, which commands change."""

    def __init__(self, well, state):
        self._now = first_moment(well, state)
        # The moments before each command in effect. A moment is never modified.
        self._past = []
        self._log = []

    def move(self, down, up, *, count=1):
        """Execute `count` equal MOVEs and return the increase of the weight at the bottom."""
        return self._run("move", [down, up, count])

    def goto(self, state):
        """Go to a STATE with the fewest MOVEs and return their number."""
        return self._run("goto", [state])

    def finish(self):
        """Go to the terminal STATE with the most MOVEs and return their number."""
        return self._run("finish", [])

    def add_people(self, weight, count):
        """Add people of one weight at the top and return the index of their group."""
        return self._run("add_people", [weight, count])

    def remove_people(self, group, count):
        """Remove people of one group from the top."""
        return self._run("remove_people", [group, count])

    def set_limit(self, limit):
        """Change the limit and return the previous one."""
        return self._run("set_limit", [limit])

    def batch(self, commands, *, atomic=True):
        """Execute a list of commands as a single one and return their results."""
        self._log.append(("begin", "batch"))
        try:
            _check_commands(commands)
            return self._run_all(commands, atomic)
        finally:
            self._log.append(("end", "batch"))

    def undo(self):
        """Revert the last command in effect and tell whether there was one."""
        self._log.append(("begin", "undo"))
        found = len(self._past) > 0
        if found:
            self._now = self._past.pop()
        self._log.append(("end", "undo"))
        return found

    def well(self):
        """Return the WELL."""
        return self._now[WELL]

    def state(self):
        """Return the STATE."""
        return self._now[STATE]

    def move_total(self):
        """Return the number of MOVEs that the commands in effect executed."""
        return self._now[MOVES]

    def weight_total(self):
        """Return the weight that went down in these MOVEs minus the weight that went up."""
        return self._now[WEIGHT]

    def legal_moves(self):
        """Return the legal MOVEs in ascending order."""
        return legal_moves(self.well(), self.state())

    def terminal_state(self):
        """Return the terminal STATE that can be reached."""
        return terminal_state(self.well(), self.state())

    def min_moves(self, state):
        """Return the smallest number of MOVEs to a STATE."""
        return min_moves(self.well(), self.state(), state)

    def command_count(self):
        """Return the number of commands in effect."""
        return len(self._past)

    def at_depth(self, depth):
        """Return a Simulation as this one was after its first commands in effect."""
        if not 0 <= depth <= len(self._past):
            raise NoSuchDepth(depth)
        moments = self._past + [self._now]
        earlier = Simulation(self.well(), self.state())
        earlier._now = moments[depth]
        earlier._past = moments[:depth]
        return earlier

    def copy(self):
        """Return an independent Simulation with the same commands in effect."""
        return self.at_depth(self.command_count())

    def log(self):
        """Return the list of pairs that tell which commands began and ended."""
        return list(self._log)

    def __eq__(self, other):
        return isinstance(other, Simulation) and self._now[:WEIGHT] == other._now[:WEIGHT]

    def __len__(self):
        return len(range(total_size(self.well())))

    def __repr__(self):
        return f"Simulation({len(self.state())} groups, {total_size(self.well())} people)"

    def _run(self, name, arguments):
        """Execute a command, put it in effect and return its result."""
        result, later = self._execute(name, self._now, arguments)
        self._past.append(self._now)
        self._now = later
        return result

    def _run_all(self, commands, atomic):
        """Execute the commands of a batch and put them in effect as one."""
        results = []
        later, kept = self._now, None
        try:
            for name, *arguments in commands:
                result, later = self._execute(name, later, arguments)
                results.append(result)
                if not atomic:
                    kept = later
            kept = later
        finally:
            # This is reached with an error too, after which a part may stay in effect.
            if kept is not None:
                self._past.append(self._now)
                self._now = kept
        return results

    def _execute(self, name, moment, arguments):
        """Return the result of a command and the moment behind it, and log the command."""
        action = ACTIONS[name]
        self._log.append(("begin", name))
        try:
            return action(moment, *arguments)
        finally:
            self._log.append(("end", name))


def _check_commands(commands):
    """Raise InvalidCommand for the first element of a batch that is no command."""
    for index, element in enumerate(commands):
        if not _is_command(element):
            raise InvalidCommand(index)


def _is_command(element):
    if not isinstance(element, (list, tuple)) or len(element) == 0:
        return False
    # A name may be anything here, and a list cannot be looked up in a dict.
    if not isinstance(element[0], str):
        return False
    return len(element) - 1 in ARGUMENT_NUMBERS.get(element[0], ())
