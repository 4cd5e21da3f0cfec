"""Sequences of moves ([12])."""

from wellfolk.covers import counts_from, move_counts, total_count
from wellfolk.errors import IllegalMove, TooLong
from wellfolk.kinds import is_integer, is_tuple
from wellfolk.limits import MAX_SEQUENCE
from wellfolk.moves import apply_move, apply_moves, legal_moves


def count_moves(moves):
    """Return the MOVE COUNTS of a list of MOVEs."""
    numbers = {}
    for down, up in moves:
        numbers[(down, up)] = numbers.get((down, up), 0) + 1
    return counts_from(numbers)


def order_moves(well, state, counts):
    """Return all MOVEs of the MOVE COUNTS in an order in which they are legal."""
    size = total_count(counts)
    if size > MAX_SEQUENCE:
        raise TooLong(size)
    left = {(down, up): count for down, up, count in counts}
    moves = []
    for _ in range(size):
        # Any legal one will do: the others lead on to the same STATE, so some of
        # them are legal next, whichever has been taken.
        move = [pair for pair in legal_moves(well, state) if left.get(pair, 0) > 0][0]
        left[move] -= 1
        moves.append(move)
        state = apply_move(well, state, move)
    return moves


def move_sequence(well, source, target, *, size=None):
    """Return `size` MOVEs, or the fewest, that lead from source to target."""
    return order_moves(well, source, move_counts(well, source, target, size=size))


def is_move_sequence(well, source, target, value):
    """Tell whether value is a list of MOVEs that leads from source to target."""
    if not isinstance(value, list) or not all([_is_pair(move) for move in value]):
        return False
    try:
        return apply_moves(well, source, value) == tuple(target)
    except IllegalMove:
        return False


def _is_pair(value):
    return is_tuple(value, 2) and is_integer(value[0]) and is_integer(value[1])
