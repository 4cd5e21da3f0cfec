"""The interface: each name stands in its file, with the documented arguments."""

import ast
import importlib
import inspect
import pathlib
import unittest

PACKAGE = pathlib.Path(__file__).resolve().parent.parent / "wellfolk"

# For each module its functions and classes, each with its parameters as they are written.
FUNCTIONS = {
    "wells": {
        "is_well": "(value)",
        "is_state": "(well, value)",
        "weight_of": "(well, group)",
        "total_size": "(well)",
        "empty_state": "(well)",
    },
    "moves": {
        "all_moves": "(well)",
        "legal_moves": "(well, state)",
        "apply_move": "(well, state, move)",
        "apply_moves": "(well, state, moves)",
        "weight_change": "(well, source, target)",
    },
    "segments": {
        "segments": "(well)",
        "is_grounded": "(well)",
        "suffix_counts": "(well, state)",
        "state_from_counts": "(well, counts)",
    },
    "reach": {
        "is_reachable": "(well, source, target)",
        "obstruction": "(well, source, target)",
        "is_obstruction": "(well, source, target, value)",
        "is_terminal": "(well, state)",
        "terminal_state": "(well, state)",
    },
    "lattice": {
        "are_compatible": "(well, first, second)",
        "join": "(well, first, second)",
        "meet": "(well, first, second)",
    },
    "crossing": {
        "crossings": "(well, source, target)",
        "max_moves": "(well, source, target)",
        "descent_bounds": "(well, source, target)",
    },
    "covers": {
        "min_moves": "(well, source, target)",
        "move_counts": "(well, source, target, *, size=None)",
        "are_move_counts": "(well, source, target, value)",
    },
    "potentials": {
        "is_potential": "(well, value)",
        "potential_gain": "(well, potential, source, target)",
        "optimal_potential": "(well, source, target)",
    },
    "sequences": {
        "count_moves": "(moves)",
        "order_moves": "(well, state, counts)",
        "move_sequence": "(well, source, target, *, size=None)",
        "is_move_sequence": "(well, source, target, value)",
    },
    "limits_for": {
        "with_limit": "(well, limit)",
        "min_limit": "(well, source, target)",
        "min_limit_for": "(well, source, target, size)",
    },
    "counting": {
        "count_states": "(well, state)",
        "state_at": "(well, state, index)",
        "state_index": "(well, state, target)",
        "count_sequences": "(well, source, target, size)",
        "sequence_at": "(well, source, target, size, index)",
        "sequence_index": "(well, state, moves)",
    },
    "simulation": {
        "Simulation": "(well, state)",
    },
    "texts": {
        "format_well": "(well, state)",
        "parse_well": "(text)",
        "format_moves": "(moves)",
    },
    "commands": {
        "run_commands": "(text)",
    },
}


def defined_in(name):
    """Return the names of the functions and classes that a file defines itself."""
    tree = ast.parse((PACKAGE / (name + ".py")).read_text())
    return [node.name for node in tree.body
            if isinstance(node, (ast.FunctionDef, ast.ClassDef))]


class InterfaceTest(unittest.TestCase):

    def test_functions(self):
        for name, functions in FUNCTIONS.items():
            module = importlib.import_module("wellfolk." + name)
            for function, parameters in functions.items():
                with self.subTest(function):
                    self.assertIn(function, defined_in(name))
                    signature = inspect.signature(getattr(module, function))
                    self.assertEqual(str(signature), parameters)

    def test_the_package_itself_defines_nothing(self):
        self.assertEqual(defined_in("__init__"), [])


if __name__ == "__main__":
    unittest.main()
