"""Counts of reachable states and of sequences, each of them with its index ([13])."""

from wellfolk.crossing import max_moves
from wellfolk.errors import BadIndex, TooMany, Unreachable
from wellfolk.limits import MAX_PEOPLE, MAX_PEOPLE_IN_SEQUENCES
from wellfolk.moves import all_moves, apply_move, apply_moves, legal_moves
from wellfolk.reach import is_reachable, obstruction
from wellfolk.segments import segments, starts_ungrounded, suffix_counts
from wellfolk.wells import group_sizes, total_size


def count_states(well, state):
    """Return the number of STATEs that are reachable from the STATE."""
    _check_people(well, MAX_PEOPLE)
    return sum(_ways(well, state)[0])


def state_at(well, state, index):
    """Return the reachable STATE with this index, in ascending order."""
    _check_people(well, MAX_PEOPLE)
    ways = _ways(well, state)
    if not 0 <= index < sum(ways[0]):
        raise BadIndex(index)
    found = []
    left = index
    for group in range(len(well[1])):
        people, left = _find(_state_numbers(well, state, ways[group + 1], found), left)
        found.append(people)
    return tuple(found)


def state_index(well, state, target):
    """Return the index of a STATE among those that are reachable from the STATE."""
    _check_people(well, MAX_PEOPLE)
    reason = obstruction(well, state, target)
    if reason is not None:
        raise Unreachable(reason)
    ways = _ways(well, state)
    index = 0
    for group, people in enumerate(target):
        index += sum(_state_numbers(well, state, ways[group + 1], target[:group])[:people])
    return index


def count_sequences(well, source, target, size):
    """Return the number of sequences of exactly `size` MOVEs from source to target."""
    _check_people(well, MAX_PEOPLE_IN_SEQUENCES)
    return _layers(well, source, target, size)[-1].get(tuple(source), 0)


def sequence_at(well, source, target, size, index):
    """Return the sequence of `size` MOVEs with this index, in ascending order."""
    _check_people(well, MAX_PEOPLE_IN_SEQUENCES)
    layers = _layers(well, source, target, size)
    if not 0 <= index < layers[-1].get(tuple(source), 0):
        raise BadIndex(index)
    moves = []
    state, left = source, index
    for layer in reversed(layers[:-1]):
        # The layers that are left count the rest of the sequence, move by move.
        place, left = _find(_sequence_numbers(well, state, layer), left)
        moves.append(legal_moves(well, state)[place])
        state = apply_move(well, state, moves[-1])
    return moves


def sequence_index(well, state, moves):
    """Return the index of a sequence among those of its length to the same STATE."""
    _check_people(well, MAX_PEOPLE_IN_SEQUENCES)
    layers = _layers(well, state, apply_moves(well, state, moves), len(moves))
    index = 0
    current = state
    for move, layer in zip(moves, list(reversed(layers[:-1]))):
        place = legal_moves(well, current).index(tuple(move))
        index += sum(_sequence_numbers(well, current, layer)[:place])
        current = apply_move(well, current, move)
    return index


def _check_people(well, most):
    size = total_size(well)
    if size > most:
        raise TooMany(size)


def _find(numbers, index):
    """Return the place of the number in which the index falls, and the index within it."""
    place = 0
    while index >= numbers[place]:
        index -= numbers[place]
        place += 1
    return place, index


def _ways(well, state):
    """Return a list for each group, and one behind the last.

    Item k of a list counts the ways to choose the numbers of the group and all later ones, as
    far as reachability allows, so that the segment of the group before it has k people there.
    """
    counts = suffix_counts(well, state)
    sizes = group_sizes(well)
    found = [[1]]
    for group in reversed(range(len(sizes))):
        later = found[-1]
        ways = [sum(later[max(0, people - sizes[group]):people + 1])
                for people in range(len(later) + sizes[group])]
        if starts_ungrounded(well, group):
            # The group before is in another segment, which has nobody from here on.
            found.append([ways[counts[group]]])
        else:
            found.append([0] * counts[group] + ways[counts[group]:])
    found.reverse()
    return found


def _state_numbers(well, state, later, chosen):
    """Return how many reachable STATEs begin with the chosen numbers and 0, 1 .. people.

    `later` is the list of `_ways` behind the group of these people.
    """
    group = len(chosen)
    counts = suffix_counts(well, state)
    first = [segment[0] for segment in segments(well) if segment[0] <= group][-1]
    least = max([counts[place] - sum(chosen[place:]) for place in range(first, group + 1)])
    most = len(later) + group_sizes(well)[group]
    if starts_ungrounded(well, first):
        most = counts[first] - sum(chosen[first:])
    return [sum(later[max(0, least - people):max(0, most - people + 1)])
            for people in range(group_sizes(well)[group] + 1)]


def _layers(well, source, target, size):
    """Return a list: item k counts the sequences of k MOVEs to target from each STATE.

    If there is no sequence of `size` MOVEs, the list contains an empty dict only.
    """
    if not is_reachable(well, source, target) or not 0 <= size <= max_moves(well, source, target):
        return [{}]
    layers = [{tuple(target): 1}]
    for _ in range(size):
        layers.append(_one_move_longer(well, layers[-1]))
    return layers


def _one_move_longer(well, layer):
    """Return the next item of `_layers`."""
    sizes = group_sizes(well)
    moves = all_moves(well)
    longer = {}
    for state, number in layer.items():
        for down, up in moves:
            if state[down] > 0 and (up == -1 or state[up] < sizes[up]):
                before = list(state)
                before[down] -= 1
                if up != -1:
                    before[up] += 1
                key = tuple(before)
                longer[key] = longer.get(key, 0) + number
    return longer


def _sequence_numbers(well, state, layer):
    """Return for each legal MOVE how many sequences continue with it."""
    return [layer.get(apply_move(well, state, move), 0) for move in legal_moves(well, state)]
