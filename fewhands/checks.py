"""Checks of single values, which may be values of any kind."""

# The greatest number of persons of a kind.
HUGE = 10 ** 30

_LETTERS = "abcdefghijklmnopqrstuvwxyz"
_LONGEST = 8


def is_word(value):
    """Whether it is a string of 1 to 8 letters from a to z."""
    if not isinstance(value, str) or not 1 <= len(value) <= _LONGEST:
        return False
    return all([letter in _LETTERS for letter in value])


def is_whole(value, low, high):
    """Whether it is an integer, which a bool is not, from low to high."""
    if not isinstance(value, int) or isinstance(value, bool):
        return False
    return low <= value <= high
