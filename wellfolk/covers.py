"""The smallest number of moves, and MOVE COUNTS of each possible size ([10])."""

from wellfolk.crossing import crossings, max_moves
from wellfolk.errors import NoSuchSize
from wellfolk.kinds import is_integer, is_tuple
from wellfolk.moves import is_move


def min_moves(well, source, target):
    """Return the smallest number of MOVEs in a sequence from source to target."""
    return total_count(_fewest_moves(well, source, target))


def move_counts(well, source, target, *, size=None):
    """Return MOVE COUNTS of `size` MOVEs, or of the fewest, that connect source to target."""
    fewest = _fewest_moves(well, source, target)
    if size is None:
        return fewest
    least = total_count(fewest)
    if not least <= size <= max_moves(well, source, target):
        raise NoSuchSize(size)
    return _part_moves(fewest, size - least)


def are_move_counts(well, source, target, value):
    """Tell whether value is MOVE COUNTS that connect source to target."""
    if not isinstance(value, list) or not all([_is_move_count(well, part) for part in value]):
        return False
    moves = [part[:2] for part in value]
    if moves != sorted(set(moves)):
        return False
    return _net_effect(well, value) == [after - before for before, after in zip(source, target)]


def total_count(counts):
    """Return the number of MOVEs of MOVE COUNTS."""
    return sum([part[2] for part in counts])


def counts_from(numbers):
    """Return the MOVE COUNTS of a dict from each MOVE to its number."""
    return [(down, up, numbers[(down, up)]) for down, up in sorted(numbers)]


def _is_move_count(well, value):
    if not is_tuple(value, 3) or not all([is_integer(number) for number in value]):
        return False
    down, up, count = value
    return is_move(well, down, up) and count >= 1


def _net_effect(well, counts):
    """Return by how much the MOVEs change the number at the bottom, for each group."""
    change = [0] * (len(well[1]) + 1)
    for down, up, count in counts:
        change[down] += count
        # The index -1 of the empty basket finds the number behind the last group.
        change[up] -= count
    return change[:-1]


def _fewest_moves(well, source, target):
    """Return MOVE COUNTS with the smallest total that connect source to target."""
    # A MOVE crosses each group behind its `up`, up to its `down`. From group to
    # group, as many MOVEs as possible are carried on. Where some must end, those
    # with the lightest person going up do: each other MOVE can be carried as far. So
    # the MOVEs end in ascending order.
    counts = []
    begun = []
    for group, needed in enumerate(crossings(well, source, target) + (0,)):
        able = sum([count for up, count in begun if is_move(well, group, up)])
        carried = min(needed, able)
        ended, begun = _take_first(begun, sum([pair[1] for pair in begun]) - carried)
        counts.extend([(group - 1, up, count) for up, count in ended])
        if needed > carried:
            begun.append((group - 1, needed - carried))
    return counts


def _take_first(pairs, number):
    """Part pairs (up, count) into those of the first `number` MOVEs and the rest."""
    taken, left = [], []
    for up, count in pairs:
        part = min(count, number)
        number -= part
        if part > 0:
            taken.append((up, part))
        if part < count:
            left.append((up, count - part))
    return taken, left


def _part_moves(counts, extra):
    """Return MOVE COUNTS with the same net effect and `extra` MOVEs more in all."""
    numbers = {}
    for down, up, count in counts:
        for pieces, times in _shares(down - up, count, extra):
            extra -= (pieces - 1) * times
            for move in _pieces(down, up, pieces):
                numbers[move] = numbers.get(move, 0) + times
    return counts_from(numbers)


def _shares(length, count, extra):
    """Return pairs (pieces, times): of `count` equal MOVEs, `times` become so many pieces.

    A MOVE that crosses `length` groups can become as many pieces.
    """
    whole = count
    if length > 1:
        whole = min(count, extra // (length - 1))
    if whole == count:
        return [(length, count)]
    rest = extra - whole * (length - 1)
    shares = [(length, whole), (rest + 1, 1), (1, count - whole - 1)]
    return [(pieces, times) for pieces, times in shares if times > 0]


def _pieces(down, up, pieces):
    """Return so many MOVEs that have the net effect of one MOVE together."""
    last = up + pieces - 1
    return [(group + 1, group) for group in range(up, last)] + [(down, last)]
