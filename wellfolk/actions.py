"""What the commands of a Simulation do ([14]).

A moment is what a Simulation is at some time: a tuple of its WELL, its STATE, the number of
MOVEs so far and the weight that went down in them, less the weight that went up. Each command
takes a moment and its own arguments. It returns a pair: its result and the moment behind it.
"""

from wellfolk.covers import min_moves
from wellfolk.crossing import max_moves
from wellfolk.errors import LastPeople, NotEnough, TooManyGroups, UnknownGroup
from wellfolk.limits import MAX_GROUPS
from wellfolk.limits_for import with_limit
from wellfolk.moves import apply_equal_moves, weight_change
from wellfolk.reach import terminal_state
from wellfolk.wells import total_size

# The places of the items of a moment.
WELL = 0
STATE = 1
MOVES = 2
WEIGHT = 3


def first_moment(well, state):
    """Return the moment before any command, with copies of the arguments."""
    return (with_limit(well, well[0]), tuple(state), 0, 0)


def move(moment, down, up, count=1):
    """Execute `count` equal MOVEs; the result is the increase of the weight at the bottom."""
    state = apply_equal_moves(moment[WELL], moment[STATE], down, up, count)
    later = _at_state(moment, state, count)
    return later[WEIGHT] - moment[WEIGHT], later


def goto(moment, state):
    """Go to a STATE with the fewest MOVEs; the result is their number."""
    number = min_moves(moment[WELL], moment[STATE], state)
    return number, _at_state(moment, state, number)


def finish(moment):
    """Go to the terminal STATE with the most MOVEs; the result is their number."""
    state = terminal_state(moment[WELL], moment[STATE])
    number = max_moves(moment[WELL], moment[STATE], state)
    return number, _at_state(moment, state, number)


def add_people(moment, weight, count):
    """Add people of one weight at the top; the result is the index of their group."""
    groups, bottom = _numbers(moment)
    group = len([lighter for lighter, size in groups if lighter < weight])
    if group == len(groups) or groups[group][0] != weight:
        groups.insert(group, (weight, 0))
        bottom.insert(group, 0)
    if len(groups) > MAX_GROUPS:
        raise TooManyGroups(len(groups))
    groups[group] = (weight, groups[group][1] + count)
    return group, _with_numbers(moment, groups, bottom)


def remove_people(moment, group, count):
    """Remove people of one group from the top; the result is None."""
    groups, bottom = _numbers(moment)
    if not 0 <= group < len(groups):
        raise UnknownGroup(group)
    weight, size = groups[group]
    missing = count - (size - bottom[group])
    if missing > 0:
        raise NotEnough(missing)
    if count == total_size(moment[WELL]):
        raise LastPeople()
    groups[group] = (weight, size - count)
    if size == count:
        del groups[group], bottom[group]
    return None, _with_numbers(moment, groups, bottom)


def set_limit(moment, limit):
    """Change the limit; the result is the previous one."""
    well = with_limit(moment[WELL], limit)
    return moment[WELL][0], (well,) + moment[STATE:]


def _at_state(moment, state, number):
    """Return the moment at a STATE behind so many MOVEs more."""
    change = weight_change(moment[WELL], moment[STATE], state)
    return (moment[WELL], tuple(state), moment[MOVES] + number, moment[WEIGHT] + change)


def _numbers(moment):
    """Return lists of the groups and of the numbers at the bottom, which may be changed."""
    return list(moment[WELL][1]), list(moment[STATE])


def _with_numbers(moment, groups, bottom):
    """Return the moment with these groups and these numbers at the bottom."""
    well = (moment[WELL][0], tuple(groups))
    return (well, tuple(bottom)) + moment[MOVES:]


ACTIONS = {
    "move": move,
    "goto": goto,
    "finish": finish,
    "add_people": add_people,
    "remove_people": remove_people,
    "set_limit": set_limit,
}

# With how many arguments each command can stand in a batch.
ARGUMENT_NUMBERS = {
    "move": (2, 3),
    "goto": (1,),
    "finish": (0,),
    "add_people": (2,),
    "remove_people": (2,),
    "set_limit": (1,),
}
