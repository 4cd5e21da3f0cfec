"""Every example of the document, as it is written there (examples.txt)."""

import importlib
import pathlib
import re
import unittest

from checks import ErrorCase
from wellfolk import errors

TEXT = (pathlib.Path(__file__).resolve().parent / "examples.txt").read_text(encoding="utf-8")
WELL = (3, ((2, 2), (3, 1), (5, 2), (9, 1)))


def examples():
    """Return for each example its module, its lines of code and what it says of the result."""
    rows = []
    for line in TEXT.splitlines():
        if line.startswith("## "):
            module = line[3:]
        elif line:
            code, result = re.fullmatch(r"(`>>> .*?`) ((?:returns|raises) .*)", line).groups()
            rows.append((module, re.findall(r"`>>> (.*?)`(?: |\Z)", code), result))
    return rows


def names_of(module):
    """Return the names that an example begins with."""
    names = {name: thing for name, thing in vars(importlib.import_module("wellfolk." + module))
             .items() if not name.startswith("_")}
    names["well"] = WELL
    if module == "simulation":
        names["simulation"] = names["Simulation"](WELL, (0, 0, 0, 0))
    return names


class ExamplesTest(ErrorCase):

    def run_code(self, names, code):
        for line in code[:-1]:
            exec(line, names)
        return eval(code[-1], names)

    def test_all(self):
        for module, code, result in examples():
            with self.subTest(module, code=code):
                names = names_of(module)
                if result.startswith("returns "):
                    value = self.run_code(names, code)
                    # The text tells lists from tuples and booleans from integers, too.
                    self.assertEqual(repr(value), repr(eval(result[8:].strip("`"))))
                else:
                    expected = eval(result[7:], dict(vars(errors)))
                    self.assert_error(type(expected), vars(expected), self.run_code, names, code)

    def test_how_many_there_are(self):
        self.assertEqual(len(examples()), 84)
        self.assertEqual(len({module for module, _, _ in examples()}), 14)


if __name__ == "__main__":
    unittest.main()
