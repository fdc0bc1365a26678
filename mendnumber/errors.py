"""The errors of the package."""


class MendError(ValueError):
    """A value that is not of the required kind, or an operation that is not possible."""


class InvalidWord(MendError):
    """A value that is no word, no sign, or no tuple of these as required."""


class InvalidPrices(MendError):
    """Values that are no prices."""


class InvalidChange(MendError):
    """A value that is no change, no row of changes or no kind of change."""


class InvalidForm(MendError):
    """A value that is no form, or that no form can be made of."""


class InvalidRow(MendError):
    """A value that is no row."""


class InvalidOperation(MendError):
    """An operation that valid arguments do not allow."""


class ParseError(MendError):
    """A text that cannot be read; `at` is the index where this shows, or None."""

    def __init__(self, at):
        super().__init__("the text cannot be read")
        self.at = at


class InvalidNumber(IndexError):
    """A value in the place of an integer, `given`, that is not allowed there."""

    def __init__(self, given):
        super().__init__("this number is not allowed here")
        self.given = given


class UnknownName(KeyError):
    """A name, `wanted`, that does not exist."""

    def __init__(self, wanted):
        super().__init__("there is no such name")
        self.wanted = wanted


class NothingToUndo(LookupError):
    """More steps, `many`, should be undone than there are."""

    def __init__(self, many):
        super().__init__("there are not so many steps to undo")
        self.many = many


class TooMany(OverflowError):
    """There is more of something than `limit`."""

    def __init__(self, limit):
        super().__init__("there is more than the limit allows")
        self.limit = limit


class Refused(ArithmeticError):
    """A `claim` that does not hold."""

    def __init__(self, claim):
        super().__init__("the claim does not hold")
        self.claim = claim
