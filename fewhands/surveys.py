"""Surveys: what is found out about all that can happen from a stand on."""

from fewhands.checks import is_dict_of, is_whole
from fewhands.crowds import Crowds
from fewhands.errors import UnknownKind
from fewhands.games import never_stuck, reaching
from fewhands.graphs import graph_from
from fewhands.leaving import Leaving
from fewhands.limits import CAP
from fewhands.staffs import Staff


class Survey:
    """The graph of the stands that are reached from one stand, with what follows from it for all staffs."""

    def __init__(self, steps, kinds, stand):
        self._steps = steps
        self._kinds = kinds
        self._names = sorted(list(kinds))
        self.graph = graph_from(steps, kinds, stand)
        self.crowds = Crowds(len(kinds), CAP)
        self._winners = None
        self._bands = None
        self._leaving = None

    def winners(self):
        """For each stand the crowd of the staffs that always complete from there."""
        if self._winners is None:
            bounds = [self.crowds.everybody for _ in self.graph.stands]
            self._winners = never_stuck(self.graph, self.crowds, bounds)
        return self._winners

    def bands(self):
        """The crowd of the staffs that can complete together."""
        if self._bands is None:
            crowd = 0
            for turn, reached in zip(self.graph.turns, reaching(self.graph, self.crowds)):
                if turn == "done":
                    crowd = crowd | reached
            self._bands = crowd
        return self._bands

    def leaving(self):
        """The game in which persons are taken away."""
        if self._leaving is None:
            self._leaving = Leaving(self._steps, self._kinds, self.graph.stands[0])
        return self._leaving

    def needs(self):
        """The crowds of the staffs that always complete, and of those that can complete."""
        return (self.winners()[0], self.bands())

    def least_winners(self):
        """The numbers of the least staffs that always complete, ascending."""
        return self.crowds.least(self.winners()[0])

    def least_bands(self):
        """The numbers of the least staffs that can complete, ascending."""
        return self.crowds.least(self.bands())

    def greatest_losers(self):
        """The numbers of the greatest staffs that do not always complete, ascending."""
        return self.crowds.greatest_outside(self.winners()[0])

    def numbers_of(self, staff):
        """How many persons of each kind there are in a staff."""
        for kind in staff.kinds:
            if kind not in self._names:
                raise UnknownKind(kind)
        return tuple([staff[kind] for kind in self._names])

    def has_kinds_of(self, staff):
        """Whether there are only persons of known kinds in a staff."""
        return all([kind in self._names for kind in staff.kinds])

    def staff_of(self, numbers):
        """The staff with these numbers."""
        return Staff.of({kind: number for kind, number in zip(self._names, numbers)})

    def limits_of(self, numbers):
        """The limits that let in the staffs with at most these numbers, where the greatest one means any number."""
        return {kind: None if number == CAP else number for kind, number in zip(self._names, numbers)}

    def are_limits(self, value):
        """Whether any value is limits."""
        if not is_dict_of(self._names, value):
            return False
        return all([value[kind] is None or is_whole(value[kind], 0, CAP - 1) for kind in self._names])

    def greatest_within(self, limits):
        """The numbers of the greatest staff within limits."""
        return tuple([CAP if limits[kind] is None else limits[kind] for kind in self._names])

    def wins(self, numbers):
        """Whether the staff with these numbers always completes."""
        return self.winners()[0] >> self.crowds.place(numbers) & 1 == 1

    def can_complete(self, numbers):
        """Whether the staff with these numbers can complete."""
        return self.bands() >> self.crowds.place(numbers) & 1 == 1
