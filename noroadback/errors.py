"""The errors that the program raises."""


class RoadError(ValueError):
    """A value is not of the kind that is asked for. Takes a message."""


class InvalidWord(RoadError):
    """A value is no word, or no row of letters. Takes a message."""


class InvalidTurner(RoadError):
    """A value is no turner. Takes a message."""


class InvalidSum(RoadError):
    """A value is no sum of words. Takes a message."""


class InvalidWeb(RoadError):
    """A value is no web. Takes a message."""


class InvalidRoad(RoadError):
    """A value is no road. Takes a message."""


class InvalidStand(RoadError):
    """A value is no stand. Takes a message."""


class InvalidTable(RoadError):
    """A value is no table. Takes a message."""


class InvalidOrder(RoadError):
    """A value is no order of letters. Takes a message."""


class InvalidOperation(RoadError):
    """Values cannot be used together, or not so. Takes a message."""


class ParseError(RoadError):
    """A text cannot be read. Keeps the place, or None."""

    def __init__(self, spot):
        self.spot = spot


class InvalidNumber(IndexError):
    """A number is not one of those that are asked for. Keeps it."""

    def __init__(self, given):
        self.given = given


class UnknownName(KeyError):
    """A name stands for nothing. Keeps it."""

    def __init__(self, wanted):
        self.wanted = wanted


class TooMany(OverflowError):
    """There are more than the most that is allowed. Keeps the most."""

    def __init__(self, most):
        self.most = most


class Refused(ArithmeticError):
    """A question has no answer. Keeps a tuple that tells why, a word first."""

    def __init__(self, reason):
        self.reason = reason


class NothingToUndo(LookupError):
    """There are fewer moves than are to be taken back. Keeps their number."""

    def __init__(self, steps):
        self.steps = steps
