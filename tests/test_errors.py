"""errors.py: the fifteen error classes of the interface."""

import inspect
import unittest

from wellfolk import errors

WITH_ARGUMENT = [
    ("Unreachable", ValueError, "reason", ("more", 3)),
    ("InvalidCommand", ValueError, "index", 1),
    ("InvalidWord", ValueError, "index", 4),
    ("InvalidLine", ValueError, "index", 0),
    ("UnknownGroup", LookupError, "group", -2),
    ("NoSuchSize", LookupError, "size", 7),
    ("BadIndex", LookupError, "index", 6),
    ("NoSuchDepth", LookupError, "depth", -1),
    ("IllegalMove", RuntimeError, "pair", (2, 1)),
    ("NotEnough", RuntimeError, "count", 1),
    ("TooLong", OverflowError, "size", 301),
    ("TooMany", OverflowError, "size", 201),
    ("TooManyGroups", OverflowError, "count", 13),
]
WITHOUT_ARGUMENT = [("InvalidState", ValueError), ("LastPeople", RuntimeError)]


class ErrorsTest(unittest.TestCase):

    def test_there_are_these_fifteen_and_no_other(self):
        own = [name for name, thing in vars(errors).items()
               if inspect.isclass(thing) and thing.__module__ == "wellfolk.errors"]
        expected = [row[0] for row in WITH_ARGUMENT + WITHOUT_ARGUMENT]
        self.assertEqual(sorted(own), sorted(expected))
        self.assertEqual(len(own), 15)

    def test_each_derives_directly_from_its_builtin_class(self):
        for row in WITH_ARGUMENT + WITHOUT_ARGUMENT:
            with self.subTest(row[0]):
                self.assertEqual(getattr(errors, row[0]).__bases__, (row[1],))

    def test_argument_by_position(self):
        for name, _, field, argument in WITH_ARGUMENT:
            with self.subTest(name):
                error = getattr(errors, name)(argument)
                self.assertEqual(vars(error), {field: argument})

    def test_argument_by_name(self):
        for name, _, field, argument in WITH_ARGUMENT:
            with self.subTest(name):
                error = getattr(errors, name)(**{field: argument})
                self.assertEqual(vars(error), {field: argument})

    def test_the_argument_is_needed(self):
        for name, _, _, argument in WITH_ARGUMENT:
            with self.subTest(name):
                self.assertRaises(TypeError, getattr(errors, name))
                self.assertRaises(TypeError, getattr(errors, name), argument, argument)

    def test_without_argument(self):
        for name, _ in WITHOUT_ARGUMENT:
            with self.subTest(name):
                self.assertEqual(vars(getattr(errors, name)()), {})

    def test_each_can_be_raised_and_caught_by_the_builtin_class(self):
        for name, builtin, field, argument in WITH_ARGUMENT:
            with self.subTest(name):
                with self.assertRaises(builtin) as caught:
                    raise getattr(errors, name)(argument)
                self.assertEqual(getattr(caught.exception, field), argument)
        for name, builtin in WITHOUT_ARGUMENT:
            with self.subTest(name), self.assertRaises(builtin):
                raise getattr(errors, name)()


if __name__ == "__main__":
    unittest.main()
