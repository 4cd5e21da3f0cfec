"""Moves: which there are, which are legal, and what they change ([5])."""

from wellfolk.errors import IllegalMove
from wellfolk.wells import weight_of


def all_moves(well):
    """Return all MOVEs of the well in ascending order."""
    return [(down, up)
            for down in range(len(well[1]))
            for up in range(-1, down)
            if is_move(well, down, up)]


def legal_moves(well, state):
    """Return the MOVEs that are legal in the STATE, in ascending order."""
    return [(down, up) for down, up in all_moves(well)
            if _people_are_there(well, state, down, up)]


def apply_move(well, state, move):
    """Return the STATE to which the MOVE leads."""
    return apply_moves(well, state, [move])


def apply_moves(well, state, moves):
    """Return the STATE to which the MOVEs lead, one after another."""
    bottom = list(state)
    for down, up in moves:
        if not _is_legal(well, bottom, down, up):
            raise IllegalMove((down, up))
        bottom[down] += 1
        if up != -1:
            bottom[up] -= 1
    return tuple(bottom)


def weight_change(well, source, target):
    """Return by how much the weight at the bottom grows from source to target."""
    return sum([(target[group] - source[group]) * weight_of(well, group)
                for group in range(len(well[1]))])


def is_move(well, down, up):
    """Tell whether two integers are a MOVE of the well."""
    # The indices come first: weight_of would raise UnknownGroup for a wrong one.
    if not 0 <= down < len(well[1]) or not -1 <= up < down:
        return False
    return weight_of(well, down) - weight_of(well, up) <= well[0]


def _is_legal(well, state, down, up):
    return is_move(well, down, up) and _people_are_there(well, state, down, up)


def _people_are_there(well, state, down, up):
    """Tell whether the people whom a MOVE needs are at the top and at the bottom."""
    size = well[1][down][1]
    return state[down] < size and (up == -1 or state[up] >= 1)
