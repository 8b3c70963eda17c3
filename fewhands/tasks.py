"""Tasks: who can do them, and whom the book remembers afterwards."""

from fewhands.checks import are_words, is_whole, is_word
from fewhands.errors import InvalidTask
from fewhands.limits import MANY


def _ascending(field, words):
    """The ascending tuple of a list of different words, which the argument with this name has to be."""
    if not are_words(words):
        raise InvalidTask(field)
    return tuple(sorted(words))


class Task:
    """What one or more persons do together. It never changes."""

    def __init__(self, role=None, *, many=1, other=(), same=(), takes=(), forgets=()):
        if role is not None and not is_word(role):
            raise InvalidTask("role")
        if not is_whole(many, 1, MANY):
            raise InvalidTask("many")
        self._role = role
        self._many = many
        self._other = _ascending("other", other)
        self._same = _ascending("same", same)
        self._takes = _ascending("takes", takes)
        self._forgets = _ascending("forgets", forgets)

    @property
    def role(self):
        """The role that each person needs, or None."""
        return self._role

    @property
    def many(self):
        """How many persons do it."""
        return self._many

    @property
    def other(self):
        """The names whose last doers cannot do it."""
        return self._other

    @property
    def same(self):
        """The names whose last doers alone can do it."""
        return self._same

    @property
    def takes(self):
        """The names whose last doers are then those who did it."""
        return self._takes

    @property
    def forgets(self):
        """The names that then have no last doers."""
        return self._forgets

    def __eq__(self, other):
        return (isinstance(other, Task) and self._role == other._role and self._many == other._many
                and self._other == other._other and self._same == other._same
                and self._takes == other._takes and self._forgets == other._forgets)


class Vote(Task):
    """A task of several persons."""

    def __init__(self, many, role=None, *, other=()):
        super().__init__(role, many=many, other=other)


class HandOn(Task):
    """A task by which one person takes names over."""

    def __init__(self, *names, role=None):
        # The names are told to be wrong ahead of the role, unlike in a Task.
        if not names or not are_words(names):
            raise InvalidTask("takes")
        super().__init__(role, takes=names)


class Reopen(Task):
    """A task by which names are forgotten."""

    def __init__(self, *names, role=None):
        # The names are told to be wrong ahead of the role, unlike in a Task.
        if not names or not are_words(names):
            raise InvalidTask("forgets")
        super().__init__(role, forgets=names)
