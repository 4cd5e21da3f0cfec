"""The errors of the package, one class for each kind of failure."""


class Unreachable(ValueError):
    """The target cannot be reached; reason is an obstruction."""

    def __init__(self, reason):
        self.reason = reason


class InvalidCommand(ValueError):
    """The element of a batch at this index is not a command."""

    def __init__(self, index):
        self.index = index


class InvalidWord(ValueError):
    """The word of a text at this index is wrong or missing."""

    def __init__(self, index):
        self.index = index


class InvalidLine(ValueError):
    """The line of a text at this index is wrong."""

    def __init__(self, index):
        self.index = index


class InvalidState(ValueError):
    """The numbers are not a STATE of the current well."""


class UnknownGroup(LookupError):
    """The well has no group with this index."""

    def __init__(self, group):
        self.group = group


class NoSuchSize(LookupError):
    """There is no sequence with this number of MOVEs."""

    def __init__(self, size):
        self.size = size


class BadIndex(LookupError):
    """Nothing that is counted has this index."""

    def __init__(self, index):
        self.index = index


class NoSuchDepth(LookupError):
    """There are not so many commands in effect."""

    def __init__(self, depth):
        self.depth = depth


class IllegalMove(RuntimeError):
    """The pair is no MOVE, or it is not legal in its turn."""

    def __init__(self, pair):
        self.pair = pair


class NotEnough(RuntimeError):
    """This many people are missing at the top."""

    def __init__(self, count):
        self.count = count


class LastPeople(RuntimeError):
    """Nobody would be left in the well."""


class TooLong(OverflowError):
    """A sequence of this many MOVEs is too long to be listed."""

    def __init__(self, size):
        self.size = size


class TooMany(OverflowError):
    """This many people are too many to count with."""

    def __init__(self, size):
        self.size = size


class TooManyGroups(OverflowError):
    """This many groups are too many for a well."""

    def __init__(self, count):
        self.count = count
