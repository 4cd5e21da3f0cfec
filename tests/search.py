"""Answers that a search over all legal moves finds, by the words of the document alone."""

import functools


def legal_pairs(given, state):
    """Return the legal MOVEs in a STATE."""
    limit, groups = given
    weights = [weight for weight, _ in groups] + [0]
    return [(down, up) for down in range(len(groups)) for up in range(-1, down)
            if weights[down] - weights[up] <= limit
            and state[down] < groups[down][1] and (up == -1 or state[up] > 0)]


def after_move(state, move):
    """Return the STATE to which a legal MOVE leads."""
    down, up = move
    numbers = list(state)
    numbers[down] += 1
    if up != -1:
        numbers[up] -= 1
    return tuple(numbers)


@functools.lru_cache(maxsize=None)
def reachable_from(given, state):
    """Return the set of the STATEs that are reachable from a STATE."""
    found, waiting = {state}, [state]
    while waiting:
        current = waiting.pop()
        for move in legal_pairs(given, current):
            later = after_move(current, move)
            if later not in found:
                found.add(later)
                waiting.append(later)
    return frozenset(found)


def weight_below(given, state):
    """Return the total weight at the bottom, which every MOVE increases."""
    return sum(people * weight for people, (weight, _) in zip(state, given[1]))


@functools.lru_cache(maxsize=None)
def sequences_from(given, source):
    """Return what all sequences from a STATE have in common with their end.

    For each reachable STATE: the largest number of MOVEs, and for each group the least and the
    largest number of descents.
    """
    none = (0,) * len(given[1])
    best = {source: (0, none, none)}
    ordered = sorted(reachable_from(given, source), key=lambda state: weight_below(given, state))
    for state in ordered:
        longest, least, most = best[state]
        for move in legal_pairs(given, state):
            later = after_move(state, move)
            here = (longest + 1, one_more(least, move[0]), one_more(most, move[0]))
            known = best.get(later, here)
            best[later] = (max(known[0], here[0]), tuple(map(min, known[1], here[1])),
                           tuple(map(max, known[2], here[2])))
    return best


@functools.lru_cache(maxsize=None)
def sizes_from(given, source):
    """Return for each reachable STATE the set of the lengths of all sequences to it."""
    sizes = {source: {0}}
    for state in sorted(reachable_from(given, source), key=lambda one: weight_below(given, one)):
        for move in legal_pairs(given, state):
            later = sizes.setdefault(after_move(state, move), set())
            later.update(size + 1 for size in sizes[state])
    return sizes


def all_counts(given, source, target):
    """Return all MOVE COUNTS whose net effect leads from one STATE to another."""
    limit, groups = given
    weights = [weight for weight, _ in groups] + [0]
    moves = [(down, up) for down in range(len(groups)) for up in range(-1, down)
             if weights[down] - weights[up] <= limit]
    before, after = counts_by_hand(given, source), counts_by_hand(given, target)
    return counts_that_cross(moves, [after[k] - before[k] for k in range(len(groups))])


def counts_that_cross(moves, crossed):
    """Return all MOVE COUNTS of some MOVEs that cross each group so many times."""
    if not moves:
        return [] if any(crossed) else [[]]
    (down, up), found = moves[0], []
    for count in range(min(crossed[up + 1:down + 1]) + 1):
        left = [number - count * (up < group <= down) for group, number in enumerate(crossed)]
        first = [(down, up, count)] if count else []
        found.extend(first + rest for rest in counts_that_cross(moves[1:], left))
    return found


def one_more(numbers, group):
    """Return the numbers with one more at a group."""
    return tuple(number + (k == group) for k, number in enumerate(numbers))


def segments_by_hand(given):
    """Return the segments, and of each group whether an ungrounded segment starts there."""
    limit, groups = given
    parts, starts = [], []
    for group, (weight, _) in enumerate(groups):
        if group == 0:
            parts.append([0])
            starts.append(weight > limit)
        elif weight - groups[group - 1][0] > limit:
            parts.append([group])
            starts.append(True)
        else:
            parts[-1].append(group)
            starts.append(False)
    return parts, starts


def counts_by_hand(given, state):
    """Return the SUFFIX COUNTS of a STATE."""
    counts = {}
    for part in segments_by_hand(given)[0]:
        for group in part:
            counts[group] = sum(state[later] for later in part if later >= group)
    return tuple(counts[group] for group in range(len(state)))
