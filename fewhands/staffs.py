"""Staffs: how many persons of each kind there are."""

from fewhands.checks import HUGE, is_whole, is_word
from fewhands.errors import InvalidStaff, TooFew


class Packed:
    """The numbers of a staff as one value: a kind named self cannot be a keyword."""

    def __init__(self, content):
        self.content = content


def _unpacked(numbers):
    """The numbers that the keywords of a staff stand for."""
    packed = numbers.get("packed")
    if isinstance(packed, Packed):
        return packed.content
    return numbers


def _counted(numbers):
    """The numbers above 0, by ascending kinds, once all of them are found right."""
    names = sorted(list(numbers))
    for name in names:
        if not is_word(name):
            raise InvalidStaff(name)
    for name in names:
        if not is_whole(numbers[name], 0, HUGE):
            raise InvalidStaff(numbers[name])
    return {name: numbers[name] for name in names if numbers[name] > 0}


def _has_string_keys(value):
    """Whether any value is a dict with strings as keys."""
    return isinstance(value, dict) and all([isinstance(key, str) for key in value])


def _staff(numbers):
    """The staff with these numbers, whatever its kinds are called."""
    return Staff(packed=Packed(numbers))


class Staff:
    """How many persons of each kind there are. It never changes."""

    def __init__(self, **numbers):
        self._numbers = _counted(_unpacked(numbers))

    @classmethod
    def of(cls, numbers):
        """The staff with the numbers of a dict."""
        if not _has_string_keys(numbers):
            raise InvalidStaff(numbers)
        return cls(packed=Packed(numbers))

    @property
    def kinds(self):
        """The ascending tuple of the kinds with a number above 0."""
        return tuple(self._numbers)

    @property
    def total(self):
        """How many persons there are."""
        return sum(list(self._numbers.values()))

    def numbers(self):
        """A new dict of the kinds with a number above 0."""
        return dict(self._numbers)

    def __getitem__(self, kind):
        # Only strings are looked up: a list or a dict cannot be a key.
        if not isinstance(kind, str):
            return 0
        return self._numbers.get(kind, 0)

    def __iter__(self):
        raise TypeError("a staff is not iterated over")

    def __eq__(self, other):
        return isinstance(other, Staff) and self._numbers == other._numbers

    def __add__(self, other):
        kinds = {**self._numbers, **other._numbers}
        return _staff({kind: self[kind] + other[kind] for kind in kinds})

    def __sub__(self, other):
        for kind in other.kinds:
            if self[kind] < other[kind]:
                raise TooFew(kind)
        return _staff({kind: self[kind] - other[kind] for kind in self._numbers})

    def __or__(self, other):
        kinds = {**self._numbers, **other._numbers}
        return _staff({kind: max(self[kind], other[kind]) for kind in kinds})

    def __and__(self, other):
        return _staff({kind: min(self[kind], other[kind]) for kind in self._numbers})

    def fits_in(self, other):
        """Whether it has at most as many persons of each kind as the other one."""
        return all([self[kind] <= other[kind] for kind in self._numbers])

    def within(self, limits):
        """Whether it is within limits, a dict from kinds to integers or None."""
        return all([most is None or self[kind] <= most for kind, most in limits.items()])
