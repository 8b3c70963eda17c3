"""Leaving: the game in which the world takes persons away while a book is done."""

from fewhands.crowds import Crowds
from fewhands.games import never_stuck
from fewhands.graphs import graph_from
from fewhands.limits import CAP

# The most persons who are taken away.
MOST_LEAVING = 4


def _without(blocks, block):
    """Blocks with this one once less."""
    found = list(blocks)
    found.remove(block)
    return tuple(found)


class Leaving:
    """The stands that are reached from one stand by moves and by taking last doers away."""

    def __init__(self, steps, kinds, stand):
        self._kinds = sorted(list(kinds))
        self._graph = graph_from(steps, kinds, stand)
        # How many stands are reached by taking at most 0, 1, 2, .. last doers away: they are the first ones.
        self._ends = [len(self._graph.stands)]
        # For each stand that is no last one, what is left without one of its last doers.
        self._left = []
        for _ in range(MOST_LEAVING):
            self._take_one_away()
        # With each person who is taken away one more of a kind can make a difference.
        self._crowds = Crowds(len(self._kinds), CAP + MOST_LEAVING)
        self._lasting = self._crowds_that_last()

    def _take_one_away(self):
        """Finds the stands that are reached if one last doer more is taken away."""
        start, end = len(self._left), self._ends[-1]
        self._left.extend([self._left_at(at) for at in range(start, end)])
        self._graph.explore()
        self._ends.append(len(self._graph.stands))

    def _left_at(self, at):
        """For each different last doer at a stand, the number of the kind, and the number of the stand that is left."""
        plan, blocks = self._graph.stands[at]
        found = []
        for block in sorted(set(blocks)):
            found.append((self._kinds.index(block[0]), self._graph.meet((plan, _without(blocks, block)))))
        return found

    def _bound(self, winners, at):
        """The staffs that are winners at the stand that is left, whichever person is taken away at a stand."""
        crowds = self._crowds
        counted = self._graph.counted(self._graph.stands[at])
        crowd = crowds.everybody
        # Where nobody is free, nobody who is free can be taken away.
        for kind, number in enumerate(counted):
            crowd = crowd & (crowds.with_one_more(kind, winners[at]) | ~crowds.with_more_than(kind, number))
        for kind, left in self._left[at]:
            crowd = crowd & (crowds.with_one_more(kind, winners[left]) | ~crowds.with_more_than(kind, 0))
        return crowd

    def _crowds_that_last(self):
        """The crowds of the staffs that are never stuck, whichever 0, 1, 2, .. persons are taken away."""
        crowds = self._crowds
        winners = never_stuck(self._graph, crowds, [crowds.everybody for _ in self._graph.stands])
        found = [winners[0]]
        for many in range(1, MOST_LEAVING + 1):
            bounds = [self._bound(winners, at) for at in range(self._ends[MOST_LEAVING - many])]
            winners = never_stuck(self._graph, crowds, bounds)
            found.append(winners[0])
        return found

    def outlasted(self, numbers):
        """How many persons the staff with these numbers outlasts, None if it does not always complete."""
        place = self._crowds.place(numbers)
        most = min(sum(numbers), MOST_LEAVING)
        return max([many for many in range(most + 1) if self._lasting[many] >> place & 1], default=None)
