"""The errors that the package raises."""


class PriceError(ValueError):
    """What all errors about the form of a value have in common."""


class InvalidMachine(PriceError):
    """There is no such machine."""


class InvalidText(PriceError):
    """A value is no text, or no letter."""


class InvalidPattern(PriceError):
    """A value is not the text of a pattern."""


class InvalidSquare(PriceError):
    """A value is not the rows of a square."""


class InvalidCosts(PriceError):
    """A value is not the rows of costs."""


class InvalidRow(PriceError):
    """A value is no row."""


class InvalidPaper(PriceError):
    """A value does not have the form of a paper."""


class InvalidOperation(PriceError):
    """What is asked for cannot be done with these values."""


class ParseError(PriceError):
    """A text, or a line with a number, cannot be read."""

    def __init__(self, number):
        self.number = number


class UnknownName(KeyError):
    """What is looked up by a word is not there."""

    def __init__(self, word):
        self.word = word


class NotTaken(LookupError):
    """A text is not taken."""

    def __init__(self, untaken):
        self.untaken = untaken


class InvalidNumber(IndexError):
    """A value is none of the numbers, or places, that are allowed."""

    def __init__(self, value):
        self.value = value


class NothingToUndo(RuntimeError):
    """There are not so many changes to take back, or to do again."""

    def __init__(self, many):
        self.many = many


class TooMany(OverflowError):
    """There is more of something than the limit allows."""

    def __init__(self, limit):
        self.limit = limit


class Unstable(ArithmeticError):
    """A repeated part of a pattern has a square that is not stable."""

    def __init__(self, part):
        self.part = part


class Refused(ArithmeticError):
    """A pledge does not hold."""

    def __init__(self, pledge):
        self.pledge = pledge
