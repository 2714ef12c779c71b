"""Integers, letters, names and texts: which values are such."""

MAX_LETTERS = 8
MAX_FIGURES = 60
MAX_TEXT = 100000

LETTERS = "abcdefghijklmnopqrstuvwxyz"


def is_integer(value):
    """Whether the value is an integer of at most sixty digits."""
    if not isinstance(value, int) or isinstance(value, bool):
        return False
    # MAX_FIGURES stands written out here, since an exponent has to be a literal.
    return abs(value) < 10 ** 60


def is_count(value):
    """Whether the value is an integer of at most sixty digits that is at least 0."""
    return is_integer(value) and value >= 0


def is_name(value):
    """Whether the value is a name: a string of one to eight letters."""
    return _is_of_letters(value) and 1 <= len(value) <= MAX_LETTERS


def is_letter(value):
    """Whether the value is one letter."""
    return _is_of_letters(value) and len(value) == 1


def is_text(value):
    """Whether the value is a text of at most 100000 letters."""
    return _is_of_letters(value) and len(value) <= MAX_TEXT


def _is_of_letters(value):
    """Whether the value is a string of letters, or the empty one."""
    # Something is left at both ends exactly if there is a sign that is no letter.
    return isinstance(value, str) and value.strip(LETTERS) == ""
