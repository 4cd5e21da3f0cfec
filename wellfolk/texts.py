"""Texts of wells and of moves ([16])."""

from wellfolk.errors import InvalidWord

MAX_DIGITS = 13


def format_well(well, state):
    """Return the text of a WELL with a STATE."""
    limit, groups = well
    words = [f"{weight}*{size}" for weight, size in groups]
    return " ".join([str(limit)] + words + ["/", format_numbers(state)])


def parse_well(text):
    """Return the pair of the WELL and the STATE that have exactly this text."""
    words = text.split(" ")
    limit = parse_number(words[0], 1)
    if limit is None:
        raise InvalidWord(0)
    groups = _parse_groups(words)
    # The numbers begin behind the limit, the groups and the slash.
    return ((limit, groups), _parse_state(words, len(groups) + 2, groups))


def format_moves(moves):
    """Return the texts of a list of MOVEs."""
    if len(moves) == 0:
        return "."
    return " ".join([f"{down}<{_format_up(up)}" for down, up in moves])


def format_numbers(numbers):
    """Return the words of a list of numbers."""
    return " ".join([str(number) for number in numbers])


def parse_number(word, least):
    """Return the integer that a word stands for, or None if it is none or too small."""
    if not 1 <= len(word) <= MAX_DIGITS or not all([sign in "0123456789" for sign in word]):
        return None
    if word[0] == "0" and word != "0":
        return None
    number = int(word)
    return number if number >= least else None


def _format_up(up):
    return "-" if up == -1 else str(up)


def _parse_groups(words):
    """Return the groups, which begin behind the limit and end before the slash."""
    groups = []
    lightest = 1
    for index in range(1, len(words)):
        if words[index] == "/" and groups:
            return tuple(groups)
        group = _parse_group(words[index], lightest)
        if group is None:
            raise InvalidWord(index)
        groups.append(group)
        lightest = group[0] + 1
    raise InvalidWord(len(words))


def _parse_group(word, lightest):
    """Return the group of a word, or None if it is none or lighter than allowed."""
    parts = word.split("*")
    if len(parts) != 2:
        return None
    weight, size = parse_number(parts[0], lightest), parse_number(parts[1], 1)
    if weight is None or size is None:
        return None
    return (weight, size)


def _parse_state(words, first, groups):
    """Return the numbers of people, which stand from the word `first` up to the end."""
    state = []
    for index, group in enumerate(groups, start=first):
        people = parse_number(words[index], 0) if index < len(words) else None
        if people is None or people > group[1]:
            raise InvalidWord(index)
        state.append(people)
    if len(words) > first + len(groups):
        raise InvalidWord(first + len(groups))
    return tuple(state)
