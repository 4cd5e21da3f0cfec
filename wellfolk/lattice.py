"""Compatible states, joins and meets ([8])."""

from wellfolk.segments import count_pairs, starts_ungrounded, state_from_counts


def are_compatible(well, first, second):
    """Tell whether some STATE is reachable from both STATEs."""
    pairs = count_pairs(well, first, second)
    return all([one == other for group, (one, other) in enumerate(pairs)
                if starts_ungrounded(well, group)])


def join(well, first, second):
    """Return the first STATE that is reachable from both, or None."""
    if not are_compatible(well, first, second):
        return None
    counts = [max(one, other) for one, other in count_pairs(well, first, second)]
    return state_from_counts(well, counts)


def meet(well, first, second):
    """Return the last STATE from which both are reachable, or None."""
    if not are_compatible(well, first, second):
        return None
    counts = [min(one, other) for one, other in count_pairs(well, first, second)]
    return state_from_counts(well, counts)
