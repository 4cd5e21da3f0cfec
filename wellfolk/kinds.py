"""Tests of single values, for the predicates of the other modules."""


def is_integer(value):
    """Tell whether value is a number."""
    # For Python a boolean is an integer, for the document it is no number.
    return isinstance(value, int) and not isinstance(value, bool)


def is_tuple(value, length):
    """Tell whether value is a tuple with this many items."""
    return isinstance(value, tuple) and len(value) == length
