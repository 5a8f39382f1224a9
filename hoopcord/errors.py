"""The refusals of the program: one base, and a class of its own for each."""


class HoopError(ValueError):
    """Any refusal."""


class NoText(HoopError):
    """A text that is not written as a shape is."""


class NoNumber(HoopError):
    """A number that no shape has."""


class NoSpot(HoopError):
    """A number that is no spot of the cord, or two spots that don't rise."""


class NoBase(HoopError):
    """A number that is no base of weights."""


class NoShape(HoopError):
    """Pairs that are no shape of the cord and book."""


class NoRow(HoopError):
    """A row that the desk doesn't know."""
