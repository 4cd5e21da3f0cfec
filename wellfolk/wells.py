"""Wells, their groups and their states ([4])."""

from wellfolk.errors import UnknownGroup
from wellfolk.kinds import is_integer, is_tuple


def is_well(value):
    """Tell whether value is a WELL."""
    if not is_tuple(value, 2):
        return False
    limit, groups = value
    return _is_positive(limit) and _are_groups(groups)


def is_state(well, value):
    """Tell whether value is a STATE of the well."""
    sizes = group_sizes(well)
    if not is_tuple(value, len(sizes)):
        return False
    return all([is_integer(people) and 0 <= people <= size
                for people, size in zip(value, sizes)])


def weight_of(well, group):
    """Return the weight of a group, or of the empty basket (-1)."""
    if group == -1:
        return 0
    # Python would take a negative index as one from the end.
    if not 0 <= group < len(well[1]):
        raise UnknownGroup(group)
    return well[1][group][0]


def total_size(well):
    """Return the number of people in all groups together."""
    return sum(group_sizes(well))


def empty_state(well):
    """Return the STATE with nobody at the bottom."""
    return (0,) * len(well[1])


def group_sizes(well):
    """Return a list of the sizes of all groups."""
    return [group[1] for group in well[1]]


def _is_positive(value):
    return is_integer(value) and value >= 1


def _is_group(value):
    return is_tuple(value, 2) and _is_positive(value[0]) and _is_positive(value[1])


def _are_groups(value):
    if not isinstance(value, tuple) or len(value) == 0:
        return False
    previous = 0
    for group in value:
        if not _is_group(group) or group[0] <= previous:
            return False
        previous = group[0]
    return True
