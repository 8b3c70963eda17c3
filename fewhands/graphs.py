"""Graphs: stands and the moves between them, by numbers."""

from fewhands.checks import is_key
from fewhands.errors import TooMany
from fewhands.forms import DONE
from fewhands.limits import STANDS
from fewhands.steps import is_move_like

# Stands are not nested deeper: a plan that is left has six levels at most.
DEEPEST = 8


class Graph:
    """The stands that are met, numbered from 0 on in this order, and the moves from those that were looked at.

    Behind each number: the stand, whose turn it is, its moves in order as (move, number of what it needs, number
    of the stand behind it), without repetition what its moves need and lead to, and the stands before it. What
    moves need is numbered, too: persons of each kind, in ascending order of the kinds.
    """

    def __init__(self, steps, kinds):
        self._steps = steps
        self._kinds = sorted(list(kinds))
        self._numbers = {}
        self._need_numbers = {}
        self.stands = []
        self.turns = []
        self.rows = []
        self.edges = []
        self.before = []
        self.needed = []

    def meet(self, stand):
        """The number of a stand, which may be new."""
        if stand not in self._numbers:
            if len(self.stands) == STANDS:
                raise TooMany(STANDS)
            self._numbers[stand] = len(self.stands)
            self.stands.append(stand)
            self.before.append([])
        return self._numbers[stand]

    def explore(self):
        """Looks at all stands that were met, and at those that are met thereby."""
        while len(self.rows) < len(self.stands):
            self._look_at(len(self.rows))

    def _look_at(self, at):
        """Finds the moves from the stand with this number, the next one to be looked at."""
        stand = self.stands[at]
        counted = self.counted(stand)
        rows = [(move, self._need(counted, move), self.meet(behind)) for move, behind in self._steps.following(stand)]
        self.rows.append(rows)
        self.turns.append(_turn(stand, rows))
        self.edges.append(list({(need, behind): True for _, need, behind in rows}))
        for behind in sorted(set([row[2] for row in rows])):
            self.before[behind].append(at)

    def counted(self, stand):
        """How many persons of each kind are last doers at a stand."""
        kinds = [kind for kind, _ in stand[1]]
        return tuple([kinds.count(kind) for kind in self._kinds])

    def _need(self, counted, move):
        """The number of what a move needs at a stand with so many last doers of each kind."""
        free = [kind for kind, names in move[2] if not names] if move[0] == "do" else []
        needed = tuple([many + free.count(kind) for many, kind in zip(counted, self._kinds)])
        if needed not in self._need_numbers:
            self._need_numbers[needed] = len(self.needed)
            self.needed.append(needed)
        return self._need_numbers[needed]

    def number_of(self, value):
        """The number of any value that is one of the stands, otherwise None."""
        if not is_key(value, DEEPEST):
            return None
        return self._numbers.get(value)

    def find_move(self, at, value):
        """What is known of any value that is a move from the stand with this number, otherwise None."""
        if is_move_like(value):
            for row in self.rows[at]:
                if row[0] == value:
                    return row
        return None


def _turn(stand, rows):
    """Whose turn it is at a stand with these moves: "done", "world" or "staff"."""
    if stand[0] == DONE:
        return "done"
    return "world" if rows and rows[0][0][0] == "choose" else "staff"


def graph_from(steps, kinds, stand):
    """The graph of the stands that are reached from a stand."""
    graph = Graph(steps, kinds)
    graph.meet(stand)
    graph.explore()
    return graph
