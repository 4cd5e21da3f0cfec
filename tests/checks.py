"""Checks that several test files use."""

import copy
import unittest

# Objects that are no list of the kind that a predicate asks for, whatever it asks.
OTHER_KINDS = [None, True, False, 0, 1, -1, "", "()", "[]", (), (None,), [None], [True], ["0"],
               [[]], [()], [[[[[[[[0]]]]]]]], (((((((0,),),),),),),), [0], (0,), [(0,)], [[0, -1]]]


class ErrorCase(unittest.TestCase):

    def assert_error(self, kind, fields, function, *arguments, **named):
        """Check that a call raises exactly this class with exactly these attributes."""
        with self.assertRaises(kind) as caught:
            function(*arguments, **named)
        self.assertIs(type(caught.exception), kind)
        self.assertEqual(vars(caught.exception), fields)
        for field, expected in fields.items():
            self.assertIs(type(getattr(caught.exception, field)), type(expected))

    def assert_unchanged(self, function, *arguments, **named):
        """Check that a call does not modify its arguments, and return its result."""
        before = copy.deepcopy([arguments, named])
        result = function(*arguments, **named)
        self.assertEqual([arguments, named], before)
        return result

    def assert_lists(self, result):
        """Check that a result is a list of tuples of integers."""
        self.assertIs(type(result), list)
        for part in result:
            self.assertIs(type(part), tuple)
            self.assertEqual([type(number) for number in part], [int] * len(part))
