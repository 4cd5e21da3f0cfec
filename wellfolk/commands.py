"""Commands and queries as lines of a text ([17])."""

from wellfolk.crossing import max_moves
from wellfolk.errors import (IllegalMove, InvalidLine, InvalidState, InvalidWord, LastPeople,
                             NotEnough, TooManyGroups, UnknownGroup, Unreachable)
from wellfolk.reach import obstruction
from wellfolk.simulation import Simulation
from wellfolk.texts import format_moves, format_numbers, format_well, parse_number, parse_well
from wellfolk.wells import is_state

# The words behind which the numbers of a STATE stand.
STATE_WORDS = ("goto", "min", "max", "why")

# The forms of the other lines: the least value of each number behind the word,
# where -1 is written as `-`.
FORMS = {
    "move": ((0, -1), (0, -1, 1)),
    "finish": ((),),
    "add_people": ((1, 1),),
    "remove_people": ((0, 1),),
    "set_limit": ((1,),),
    "undo": ((),),
    "show": ((),),
    "total": ((),),
    "weight": ((),),
    "legal": ((),),
    "terminal": ((),),
}


def run_commands(text):
    """Return the answers to the commands and queries of a text."""
    lines = text.split("\n")
    simulation = _first_simulation(lines[0])
    requests = [_parse_line(index, line) for index, line in enumerate(lines) if index > 0]
    return [_answer(simulation, name, numbers) for name, numbers in requests]


def _first_simulation(line):
    try:
        well, state = parse_well(line)
    except InvalidWord:
        raise InvalidLine(0) from None
    return Simulation(well, state)


def _parse_line(index, line):
    """Return the word and the list of numbers of a line."""
    name, *words = line.split(" ")
    for form in _forms(name, len(words)):
        numbers = [_parse_argument(word, least) for word, least in zip(words, form)]
        if None not in numbers:
            return name, numbers
    raise InvalidLine(index)


def _forms(name, length):
    """Return a list with the form of a line of this length, or an empty list."""
    if name in STATE_WORDS:
        return [(0,) * length] if length > 0 else []
    return [form for form in FORMS.get(name, ()) if len(form) == length]


def _parse_argument(word, least):
    if word == "-" and least == -1:
        return -1
    return parse_number(word, least)


def _answer(simulation, name, numbers):
    """Return the answer to a line, also if it raises an error."""
    try:
        if name in STATE_WORDS:
            return _run_with_state(simulation, name, tuple(numbers))
        return _run(simulation, name, numbers)
    except InvalidState:
        return "error InvalidState"
    except Unreachable:
        return "error Unreachable"
    except IllegalMove:
        return "error IllegalMove"
    except UnknownGroup:
        return "error UnknownGroup"
    except NotEnough:
        return "error NotEnough"
    except LastPeople:
        return "error LastPeople"
    except TooManyGroups:
        return "error TooManyGroups"


def _run_with_state(simulation, name, state):
    if not is_state(simulation.well(), state):
        raise InvalidState()
    if name == "goto":
        return str(simulation.goto(state))
    if name == "min":
        return str(simulation.min_moves(state))
    if name == "max":
        return str(max_moves(simulation.well(), simulation.state(), state))
    return _format_obstruction(obstruction(simulation.well(), simulation.state(), state))


def _format_obstruction(reason):
    if reason is None:
        return "-"
    kind, group = reason
    return f"{kind} {group}"


def _run(simulation, name, numbers):
    match name:
        case "move":
            return _move(simulation, numbers)
        case "finish":
            return str(simulation.finish())
        case "add_people":
            return str(simulation.add_people(numbers[0], numbers[1]))
        case "remove_people":
            simulation.remove_people(numbers[0], numbers[1])
            return "ok"
        case "set_limit":
            return str(simulation.set_limit(numbers[0]))
        case "undo":
            return "yes" if simulation.undo() else "no"
        case "show":
            return format_well(simulation.well(), simulation.state())
        case "total":
            return str(simulation.move_total())
        case "weight":
            return str(simulation.weight_total())
        case "legal":
            return format_moves(simulation.legal_moves())
        case _:
            return format_numbers(simulation.terminal_state())


def _move(simulation, numbers):
    if len(numbers) == 2:
        return str(simulation.move(numbers[0], numbers[1]))
    return str(simulation.move(numbers[0], numbers[1], count=numbers[2]))
