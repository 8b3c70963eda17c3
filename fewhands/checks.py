"""Checks of single values, which may be values of any kind."""

# The greatest number of persons of a kind.
HUGE = 10 ** 30

LETTERS = "abcdefghijklmnopqrstuvwxyz"

# The most letters of a word.
LONGEST = 8


def is_word(value):
    """Whether it is a string of 1 to 8 letters from a to z."""
    if not isinstance(value, str) or not 1 <= len(value) <= LONGEST:
        return False
    return all([letter in LETTERS for letter in value])


def are_words(value):
    """Whether it is a list or a tuple of different words."""
    if not isinstance(value, (list, tuple)) or not all([is_word(word) for word in value]):
        return False
    return len(set(value)) == len(value)


def is_whole(value, low, high):
    """Whether it is an integer, which a bool is not, from low to high."""
    if not isinstance(value, int) or isinstance(value, bool):
        return False
    return low <= value <= high


def is_natural(value):
    """Whether it is an integer, which a bool is not, from 0 on."""
    return isinstance(value, int) and not isinstance(value, bool) and value >= 0


def is_dict_of(keys, value):
    """Whether it is a dict with exactly these keys, which are different strings."""
    return isinstance(value, dict) and len(value) == len(keys) and all([key in value for key in keys])


def is_key(value, depth):
    """Whether it is a string, or a tuple of such values nested at most so deep: it can be looked up anywhere."""
    if isinstance(value, tuple):
        return depth > 0 and all([is_key(item, depth - 1) for item in value])
    return isinstance(value, str)
