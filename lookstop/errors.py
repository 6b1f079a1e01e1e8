"""The errors of the package.

No error makes a text of what it is given: the numbers may have too many digits to be written.
"""


class StopError(ValueError):
    """The base class of all other errors."""


class InvalidRatio(StopError):
    """A denominator or a divisor is zero."""

    def __init__(self, value):
        self.value = value


class InvalidStretch(StopError):
    """The lower end of a stretch is not less than its upper end, or an end is out of bounds."""

    def __init__(self, low, high):
        self.low = low
        self.high = high


class NotExact(StopError):
    """No polynomial with integer coefficients is the quotient."""


class InvalidWord(StopError):
    """A text is no word."""

    def __init__(self, word):
        self.word = word


class InvalidTable(StopError):
    """The limit, the looks or the rule of a table are invalid."""

    def __init__(self, place):
        self.place = place


class InvalidRing(StopError):
    """A row of a ring, or its start, is invalid."""

    def __init__(self, state):
        self.state = state


class Endless(StopError):
    """No order of wins and losses leads from a state of a ring to a word."""

    def __init__(self, state):
        self.state = state


class InvalidText(StopError):
    """A line of the text form of a table is invalid."""

    def __init__(self, line):
        self.line = line


class InvalidResult(StopError):
    """A character of a text of results is neither a win nor a loss."""

    def __init__(self, index):
        self.index = index


class TrialOver(StopError):
    """The trial ends, or has ended, before the last of the tries."""

    def __init__(self, word):
        self.word = word


class NothingToUndo(StopError):
    """There is no step that could be taken back."""


class NothingToRedo(StopError):
    """There is no step that was taken back and could be recorded again."""


class OverBudget(StopError):
    """More would be paid than the budget allows."""

    def __init__(self, missing):
        self.missing = missing
