"""The errors of the program."""


class RingError(ValueError):
    """An argument is not of the form that is asked for."""


class InvalidRing(RingError):
    """What is passed is no ring."""


class InvalidRoom(RingError):
    """What is passed is no room."""


class InvalidRow(RingError):
    """What is passed is no row, or no tuple of rows."""


class InvalidTable(RingError):
    """What is passed is no table."""


class InvalidSpace(RingError):
    """What is passed is no space."""


class InvalidPoly(RingError):
    """What is passed is no polynomial."""


class InvalidWeb(RingError):
    """What is passed tells no web of arrows."""


class InvalidOperation(RingError):
    """What is asked for is none of the things that can be done."""


class ParseError(RingError):
    """A text cannot be read."""

    def __init__(self, spot):
        self.spot = spot


class InvalidNumber(IndexError):
    """A number is not one of those that are asked for."""

    def __init__(self, given):
        self.given = given


class UnknownName(KeyError):
    """A name stands for nothing."""

    def __init__(self, wanted):
        self.wanted = wanted


class TooMany(OverflowError):
    """There would be more than there may be at the most."""

    def __init__(self, most):
        self.most = most


class Refused(ArithmeticError):
    """What is asked for does not exist."""

    def __init__(self, reason):
        self.reason = reason


class NothingToUndo(LookupError):
    """There are fewer steps than shall be taken back."""

    def __init__(self, steps):
        self.steps = steps
