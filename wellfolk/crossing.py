"""Crossings, the largest number of moves, and bounds of descents ([9])."""

from wellfolk.errors import Unreachable
from wellfolk.moves import is_move
from wellfolk.reach import obstruction
from wellfolk.segments import count_pairs


def crossings(well, source, target):
    """Return the increase of the SUFFIX COUNT of each group."""
    reason = obstruction(well, source, target)
    if reason is not None:
        raise Unreachable(reason)
    return tuple([after - before for before, after in count_pairs(well, source, target)])


def max_moves(well, source, target):
    """Return the largest number of MOVEs in a sequence from source to target."""
    return sum(crossings(well, source, target))


def descent_bounds(well, source, target):
    """Return for each group a pair of its least and its largest number of descents."""
    crossed = crossings(well, source, target)
    return [(_least_descents(well, crossed, group), most) for group, most in enumerate(crossed)]


def _least_descents(well, crossed, group):
    # A MOVE that crosses a group is a descent of it or passes over it. To pass
    # over it, the MOVE must cross the next group too; if any MOVE can, then the
    # shortest one, from the group before to the group after.
    if not is_move(well, group + 1, group - 1):
        return crossed[group]
    return max(0, crossed[group] - crossed[group + 1])
