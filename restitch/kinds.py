"""Tests of the kinds of values, for values whose kind is not known."""

WORDS_IN_ALL = 2 ** 32
MASK = 2 ** 32 - 1
LETTERS = "abcdefghijklmnopqrstuvwxyz"
NAME_CHARACTERS = "abcdefghijklmnopqrstuvwxyz0123456789_"


def is_number(value):
    """True for an integer; True and False are none."""
    return isinstance(value, int) and not isinstance(value, bool)


def is_word(value):
    return is_number(value) and 0 <= value <= MASK


def is_byte(value):
    return is_number(value) and 0 <= value <= 255


def is_row(value, count):
    """True for a tuple of so many items."""
    return isinstance(value, tuple) and len(value) == count


def is_name(value):
    """True for a name that a symbol may have."""
    if not isinstance(value, str) or not 1 <= len(value) <= 30:
        return False
    return value[0] in LETTERS and all([sign in NAME_CHARACTERS for sign in value])
