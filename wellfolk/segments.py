"""Segments of groups and the SUFFIX COUNTS of states ([6])."""

from wellfolk.moves import is_move


def segments(well):
    """Return the segments in ascending order, each the ascending list of its groups."""
    found = []
    for group in range(len(well[1])):
        if group == 0 or starts_ungrounded(well, group):
            found.append([])
        found[-1].append(group)
    return found


def is_grounded(well):
    """Tell whether the first segment is grounded."""
    return not starts_ungrounded(well, 0)


def suffix_counts(well, state):
    """Return the SUFFIX COUNTS of the STATE."""
    return tuple([sum(state[group:segment[-1] + 1])
                  for segment in segments(well) for group in segment])


def state_from_counts(well, counts):
    """Return the STATE that has these SUFFIX COUNTS."""
    state = []
    for segment in segments(well):
        for group in segment:
            later = 0 if group == segment[-1] else counts[group + 1]
            state.append(counts[group] - later)
    return tuple(state)


def starts_ungrounded(well, group):
    """Tell whether a segment that is not grounded starts at the group."""
    # The limit that parts two segments, or the first one from the empty
    # basket, is the one that forbids the MOVE between the two neighbours.
    return not is_move(well, group, group - 1)


def count_pairs(well, first, second):
    """Return for each group a pair of its SUFFIX COUNTS in the two STATEs."""
    return list(zip(suffix_counts(well, first), suffix_counts(well, second)))
