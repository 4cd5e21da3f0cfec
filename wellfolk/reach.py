"""Reachability, obstructions and terminal states ([7])."""

from wellfolk.kinds import is_integer, is_tuple
from wellfolk.moves import legal_moves
from wellfolk.segments import count_pairs, segments, starts_ungrounded
from wellfolk.wells import group_sizes


def is_reachable(well, source, target):
    """Tell whether some sequence of legal MOVEs leads from source to target."""
    return obstruction(well, source, target) is None


def obstruction(well, source, target):
    """Return the obstruction with the smallest group, or None."""
    found = _obstructions(well, source, target)
    return found[0] if found else None


def is_obstruction(well, source, target, value):
    """Tell whether value is an obstruction between the STATEs, at any group."""
    # For Python True equals 1, so a comparison alone would take a boolean for a group.
    if not is_tuple(value, 2) or not is_integer(value[1]):
        return False
    return value in _obstructions(well, source, target)


def is_terminal(well, state):
    """Tell whether no MOVE is legal in the STATE."""
    return not legal_moves(well, state)


def terminal_state(well, state):
    """Return the only terminal STATE that is reachable from the STATE."""
    sizes = group_sizes(well)
    bottom = []
    for segment in segments(well):
        places = [sizes[group] for group in segment]
        people = sum(places)
        if starts_ungrounded(well, segment[0]):
            people = sum([state[group] for group in segment])
        bottom.extend(_heaviest_first(places, people))
    return tuple(bottom)


def _obstructions(well, source, target):
    """Return all obstructions, in ascending order of their groups."""
    found = []
    for group, (before, after) in enumerate(count_pairs(well, source, target)):
        if after < before:
            found.append(("fewer", group))
        elif after > before and starts_ungrounded(well, group):
            found.append(("more", group))
    return found


def _heaviest_first(places, people):
    """Return how many people each group gets if the last groups are filled first."""
    numbers = []
    for size in reversed(places):
        numbers.append(min(size, people))
        people -= numbers[-1]
    numbers.reverse()
    return numbers
