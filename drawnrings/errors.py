"""The errors that this package raises: three base classes, and under each of them its kinds."""


class WrongValue(ValueError):
    """A value that was passed is not valid."""


class InvalidCloth(WrongValue):
    """A value is no cloth, or not the cloth that is needed."""

    def __init__(self, given):
        self.given = given


class InvalidMove(WrongValue):
    """A value is no move that a rail can be told."""

    def __init__(self, given):
        self.given = given


class InvalidText(WrongValue):
    """A value is no text that can be read."""

    def __init__(self, given):
        self.given = given


class InvalidName(WrongValue):
    """A value is no name."""

    def __init__(self, given):
        self.given = given


class InvalidNumber(WrongValue):
    """A value is no number, or no index, of what is counted."""

    def __init__(self, given):
        self.given = given


class InvalidPlace(WrongValue):
    """A value is no place, or no right end of a window."""

    def __init__(self, given):
        self.given = given


class InvalidWish(WrongValue):
    """A value is no wish."""

    def __init__(self, given):
        self.given = given


class NotAScript(WrongValue):
    """A value is no Script."""

    def __init__(self, given):
        self.given = given


class InvalidRows(WrongValue):
    """The row with this index is none in its place; None: there are too few or too many."""

    def __init__(self, index):
        self.index = index


class InvalidStanding(WrongValue):
    """The place with this index is not valid; None: there is no tuple of places."""

    def __init__(self, index):
        self.index = index


class InvalidSeen(WrongValue):
    """What was seen is not valid at this index; None: there is no tuple of it."""

    def __init__(self, index):
        self.index = index


class InvalidExchanges(WrongValue):
    """The exchange with this index is none; None: there is no tuple of at most five."""

    def __init__(self, index):
        self.index = index


class InvalidWishes(WrongValue):
    """The wish with this index is none; None: there is no tuple of wishes."""

    def __init__(self, index):
        self.index = index


class WrongName(LookupError):
    """A name is not there, or can't be taken away."""


class UnknownName(WrongName):
    """A value is no name that the desk has."""

    def __init__(self, given):
        self.given = given


class InUse(WrongName):
    """The wish with this index has the name."""

    def __init__(self, index):
        self.index = index


class NoAnswer(ArithmeticError):
    """What was passed is valid, but what was asked for can't be told or done."""


class Unknown(NoAnswer):
    """The script's row with this index has `some`."""

    def __init__(self, index):
        self.index = index


class TooFew(NoAnswer):
    """There are too few rings for this move."""

    def __init__(self, given):
        self.given = given


class TooMany(NoAnswer):
    """There are too many rings."""

    def __init__(self, given):
        self.given = given


class Broken(NoAnswer):
    """The wish with this index would not hold; `shown` shows it."""

    def __init__(self, index, shown):
        self.index = index
        self.shown = shown


class NothingToUndo(NoAnswer):
    """There is no change that could be taken back."""
