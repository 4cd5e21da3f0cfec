"""Potentials, which show that no sequence has fewer moves ([11])."""

from wellfolk.covers import move_counts
from wellfolk.kinds import is_integer, is_tuple
from wellfolk.moves import all_moves


def is_potential(well, value):
    """Tell whether value is a POTENTIAL of the well."""
    if not is_tuple(value, len(well[1])) or not all([is_integer(number) for number in value]):
        return False
    # The index -1 of the empty basket finds the 0 behind the last group.
    levels = value + (0,)
    return all([levels[down] - levels[up] <= 1 for down, up in all_moves(well)])


def potential_gain(well, potential, source, target):
    """Return by how much the POTENTIAL of all people at the bottom grows."""
    return sum([potential[group] * (target[group] - source[group])
                for group in range(len(well[1]))])


def optimal_potential(well, source, target):
    """Return a POTENTIAL whose gain is the smallest number of MOVEs."""
    # Each MOVE of a shortest sequence must add exactly 1, and each other MOVE at
    # most 1. These bounds are distances, which settle after a round for each node.
    bounds = [(up, down, 1) for down, up in all_moves(well)]
    bounds += [(down, up, -1) for down, up, count in move_counts(well, source, target)]
    levels = [0] * (len(well[1]) + 1)
    for _ in range(len(well[1]) + 1):
        for start, end, step in bounds:
            levels[end] = min(levels[end], levels[start] + step)
    return tuple([level - levels[-1] for level in levels[:-1]])
