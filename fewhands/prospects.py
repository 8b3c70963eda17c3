"""Prospects: which staffs always complete a book from which stands, found out as they are needed."""

from fewhands.crowds import Crowds
from fewhands.limits import CAP, STANDS
from fewhands.surveys import Survey

# How many surveys of the greatest size are kept in mind.
MANY_SURVEYS = 50


class Prospects:
    """The crowds that always complete a book from its stands, and from those that are left if persons leave."""

    def __init__(self, steps, kinds):
        self._steps = steps
        self._kinds = kinds
        self._crowds = Crowds(len(kinds), CAP)
        self._known = {}

    def _look_from(self, stand):
        """Finds out about a stand and all that are reached from there, of which there may be too many."""
        survey = Survey(self._steps, self._kinds, stand)
        if len(self._known) > MANY_SURVEYS * STANDS:
            self._known = {}
        for known, crowd in zip(survey.graph.stands, survey.winners()):
            self._known[known] = crowd

    def always_completes(self, counted, stand):
        """Whether a staff, told as a dict, always completes from a stand."""
        if stand not in self._known:
            self._look_from(stand)
        numbers = [counted.get(kind, 0) for kind in sorted(list(self._kinds))]
        return self._known[stand] >> self._crowds.place(numbers) & 1 == 1
