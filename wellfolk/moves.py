"""Moves: which there are, which are legal, and what they change ([5])."""

from wellfolk.errors import IllegalMove
from wellfolk.wells import weight_of


def all_moves(well):
    """Return all MOVEs of the well in ascending order."""
    return [(down, up)
            for down in range(len(well[1]))
            for up in range(-1, down)
            if is_move(well, down, up)]


def legal_moves(well, state):
    """Return the MOVEs that are legal in the STATE, in ascending order."""
    return [(down, up) for down, up in all_moves(well)
            if _people_are_there(well, state, down, up, 1)]


def apply_move(well, state, move):
    """Return the STATE to which the MOVE leads."""
    return apply_moves(well, state, [move])


def apply_moves(well, state, moves):
    """Return the STATE to which the MOVEs lead, one after another."""
    for down, up in moves:
        state = apply_equal_moves(well, state, down, up, 1)
    return tuple(state)


def apply_equal_moves(well, state, down, up, count):
    """Return the STATE to which a MOVE leads that is executed `count` times."""
    if not is_move(well, down, up) or not _people_are_there(well, state, down, up, count):
        raise IllegalMove((down, up))
    bottom = list(state)
    bottom[down] += count
    if up != -1:
        bottom[up] -= count
    return tuple(bottom)


def weight_change(well, source, target):
    """Return by how much the weight at the bottom grows from source to target."""
    return sum([(target[group] - source[group]) * weight_of(well, group)
                for group in range(len(well[1]))])


def is_move(well, down, up):
    """Tell whether two integers are a MOVE of the well."""
    # The indices come first: weight_of would raise UnknownGroup for a wrong one.
    if not 0 <= down < len(well[1]) or not -1 <= up < down:
        return False
    return weight_of(well, down) - weight_of(well, up) <= well[0]


def _people_are_there(well, state, down, up, count):
    """Tell whether the people whom `count` equal MOVEs need are at the top and at the bottom."""
    size = well[1][down][1]
    return state[down] + count <= size and (up == -1 or state[up] >= count)
