"""Histories: what can be undone and redone in an office, and trials."""


class History:
    """The present situation, the ones before it, and those that were taken back."""

    def __init__(self, now):
        self.now = now
        self.past = []
        self.future = []
        # How many blocks are in progress, and True if there were actions in the innermost one, otherwise None.
        self.blocks = 0
        self.is_changed = None

    def go_on(self, situation):
        """Makes another situation the present one by an action."""
        if self.blocks == 0:
            self.past.append(self.now)
            self.future.clear()
        self.now = situation
        self.is_changed = True

    def go_back(self, count):
        """Takes back actions."""
        for _ in range(count):
            self.future.append(self.now)
            self.now = self.past.pop()

    def repeat(self, count):
        """Repeats actions that were taken back."""
        for _ in range(count):
            self.past.append(self.now)
            self.now = self.future.pop()


class Trial:
    """A block of actions in an office, which are taken back at its end if they are not kept."""

    def __init__(self, office, history, entries):
        self._office = office
        self._history = history
        self._past = history.past
        self._future = history.future
        # Where the end of the block is noted.
        self._entries = entries
        # True or None, since the end of a block may only ask what is None.
        self._is_kept = None
        self._is_outermost = None
        # What was before the block.
        self._now = history.now
        self._blocks = history.blocks
        self._is_changed = history.is_changed

    def keep(self):
        """Lets the actions of the block stay, if no exception leaves it."""
        self._is_kept = True

    def __enter__(self):
        self._is_outermost = True if self._history.blocks == 0 else None
        self._now = self._history.now
        self._blocks = self._history.blocks
        self._is_changed = self._history.is_changed
        self._history.blocks += 1
        self._history.is_changed = None
        return self._office

    def __exit__(self, kind, value, trace):
        self._history.blocks = self._blocks
        if kind is None and self._is_kept is not None:
            self._entries.append(("trial", True))
            if self._history.is_changed is None:
                self._history.is_changed = self._is_changed
            else:
                if self._is_outermost is not None:
                    self._past.append(self._now)
                    self._future.clear()
        else:
            self._entries.append(("trial", False))
            self._history.now = self._now
            self._history.is_changed = self._is_changed
