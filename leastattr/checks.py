"""Checks of single values, which may be of any kind."""

LETTERS = "abcdefghijklmnopqrstuvwxyz"


def is_integer(thing):
    """Whether a value is an integer; True and False are none."""
    return isinstance(thing, int) and not isinstance(thing, bool)


def is_between(thing, low, high):
    """Whether a value is an integer from low to high."""
    return is_integer(thing) and low <= thing <= high


def is_width(thing):
    """Whether a value is the width of numbers modulo 2 ** width."""
    return is_between(thing, 1, 64)


def is_name(thing):
    """Whether a value is a name: 1 to 8 small letters."""
    if not isinstance(thing, str) or not 1 <= len(thing) <= 8:
        return False
    return all([sign in LETTERS for sign in thing])


def is_known(thing, table):
    """Whether a value is a string that is a key of a dict; others may not even be hashed."""
    return isinstance(thing, str) and thing in table


def is_sequence(thing, low, high):
    """Whether a value is a list or tuple of low to high items."""
    return isinstance(thing, (list, tuple)) and low <= len(thing) <= high


def is_tuple(thing, low, high):
    """Whether a value is a tuple of low to high items."""
    return isinstance(thing, tuple) and low <= len(thing) <= high


def is_row(thing, size):
    """Whether a value is a list or tuple of so many integers."""
    return is_sequence(thing, size, size) and all([is_integer(number) for number in thing])


def is_integers(thing, size):
    """Whether a value is a tuple of so many integers."""
    return isinstance(thing, tuple) and is_row(thing, size)


def first_wrong(thing, size):
    """None for a list or tuple of so many integers; otherwise the index of the first that is none, or -1."""
    if not is_sequence(thing, size, size):
        return -1
    wrong = [index for index, number in enumerate(thing) if not is_integer(number)]
    return wrong[0] if wrong else None
