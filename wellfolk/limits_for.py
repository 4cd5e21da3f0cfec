"""The smallest limits with which a state can be reached ([13])."""

from wellfolk.covers import min_moves
from wellfolk.reach import is_reachable


def with_limit(well, limit):
    """Return the WELL with this limit."""
    return (limit, tuple([tuple(group) for group in well[1]]))


def min_limit(well, source, target):
    """Return the smallest limit with which target is reachable from source, or None."""
    for limit in _possible_limits(well):
        if is_reachable(with_limit(well, limit), source, target):
            return limit
    return None


def min_limit_for(well, source, target, size):
    """Return the smallest limit with which at most `size` MOVEs suffice, or None."""
    for limit in _possible_limits(well):
        other = with_limit(well, limit)
        if is_reachable(other, source, target) and min_moves(other, source, target) <= size:
            return limit
    return None


def _possible_limits(well):
    """Return the limits, in ascending order, with which some pair becomes a MOVE, and 1."""
    weights = [0] + [group[0] for group in well[1]]
    differences = {heavy - light for heavy in weights for light in weights}
    return [1] + [limit for limit in sorted(differences) if limit > 1]
