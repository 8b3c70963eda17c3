"""The steps of a book: which moves there are at a stand, and what follows them."""

from fewhands.checks import HUGE, are_words, is_whole
from fewhands.errors import InvalidPlan
from fewhands.forms import check_plan, levels
from fewhands.limits import LEVELS, STANDS, WIDTH
from fewhands.memory import remembered_names
from fewhands.ways import ways_of


def _groups_of(members, many):
    """The different groups of so many members of an ascending list, ascending."""
    if many == 0:
        return [()]
    found = []
    for at, member in enumerate(members):
        if at == 0 or members[at - 1] != member:
            found.extend([(member, *group) for group in _groups_of(members[at + 1:], many - 1)])
    return found


def _without(names, gone):
    """The names that are not gone."""
    return [name for name in names if name not in gone]


def is_move_like(value):
    """Whether any value can be compared with moves: True and False are equal to integers that they are not."""
    if not isinstance(value, tuple):
        return False
    return all([isinstance(item, (str, tuple)) or is_whole(item, 0, HUGE) for item in value])


def needed(stand, move):
    """The persons that a move needs: a dict from kinds to numbers."""
    kinds = [kind for kind, _ in stand[1]]
    if move[0] == "do":
        kinds.extend([kind for kind, names in move[2] if not names])
    return {kind: kinds.count(kind) for kind in kinds}


class Steps:
    """What there is to do at the stands of one book, with what was found out already."""

    def __init__(self, kinds, tasks, plan):
        self._kinds = kinds
        self._tasks = tasks
        self._plan = plan
        self._remembered = remembered_names(tasks)
        # What was found out: the ways of plans, the deeds at blocks, and the plans that can be left.
        self._ways = {}
        self._deeds = {}
        self._left = {}

    def _ways_at(self, plan):
        """What can happen next to a plan that can be left."""
        if plan not in self._ways:
            self._ways[plan] = ways_of(plan)
        return self._ways[plan]

    def _members(self, task, blocks):
        """The members of groups that can do the task, ascending, each as often as a group can contain it."""
        free = [(kind, ()) for kind in self._kinds for _ in range(task.many)]
        return [
            (kind, names) for kind, names in sorted([*blocks, *free])
            if (task.role is None or task.role in self._kinds[kind])
            and not any([name in names for name in task.other])
            and all([name in names for name in task.same])
        ]

    def _blocks_behind(self, name, blocks, group):
        """The blocks after this group has done the task with this name."""
        task = self._tasks[name]
        taken = [at for at in self._remembered if at == name or at in task.takes]
        gone = [*taken, *task.forgets]
        others = list(blocks)
        for member in group:
            if member[1]:
                others.remove(member)
        rows = [(kind, tuple(_without(names, gone))) for kind, names in others]
        rows.extend([(kind, tuple(sorted([*_without(names, gone), *taken]))) for kind, names in group])
        return tuple(sorted([row for row in rows if row[1]]))

    def _deeds_at(self, name, blocks):
        """The groups that can do the task with this name, ascending, each with the blocks behind it."""
        key = (name, blocks)
        if key not in self._deeds:
            # There are far more blocks that no run reaches: with them alone the memory could fill.
            if len(self._deeds) == STANDS:
                self._deeds = {}
            task = self._tasks[name]
            groups = _groups_of(self._members(task, blocks), task.many)
            self._deeds[key] = [(group, self._blocks_behind(name, blocks, group)) for group in groups]
        return self._deeds[key]

    def following(self, stand):
        """All moves at a stand, in order, each with the stand behind it."""
        plan, blocks = stand
        found = []
        for word, at, what, left in self._ways_at(plan):
            if word == "do":
                found.extend([(("do", at, group), (left, behind)) for group, behind in self._deeds_at(what, blocks)])
            else:
                move = ("choose", what) if word == "choose" else ("pick", at, what)
                found.append((move, (left, blocks)))
        return found

    def _find_left(self):
        """Finds all plans that moves leave, whoever can make them."""
        found = [self._plan]
        known = {self._plan: True}
        at = 0
        while at < len(found):
            plan = found[at]
            for _, _, _, left in self._ways_at(plan):
                if left not in known:
                    known[left] = True
                    found.append(left)
            at += 1
        self._left = known

    def _can_be_left(self, value):
        """Whether moves leave this plan, which may be any value, whoever can make them."""
        try:
            check_plan(value)
        except InvalidPlan:
            return False
        # No plan that is left has more levels, and keys are not nested as deep as any value may be.
        if levels(value) > LEVELS + 1:
            return False
        if not self._left:
            self._find_left()
        return value in self._left

    def _is_block(self, value):
        """Whether any value is a block."""
        if not isinstance(value, tuple) or len(value) != 2:
            return False
        kind, names = value
        if not isinstance(kind, str) or kind not in self._kinds:
            return False
        if not isinstance(names, tuple) or not names or not are_words(names):
            return False
        return all([name in self._remembered for name in names]) and tuple(sorted(names)) == names

    def is_stand(self, value):
        """Whether any value is a stand, reached by runs or not."""
        if not isinstance(value, tuple) or len(value) != 2:
            return False
        plan, blocks = value
        if not isinstance(blocks, tuple) or len(blocks) > WIDTH:
            return False
        if not all([self._is_block(block) for block in blocks]) or tuple(sorted(blocks)) != blocks:
            return False
        return self._can_be_left(plan)
