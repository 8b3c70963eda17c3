"""What can happen next to plans in normal form."""

from fewhands.forms import DONE, in_turn, side_by_side


def fronts(plan):
    """What comes next in a plan in normal form: one name or plan, two in a "beside", none if it is complete.

    They are the places of the staff, unless one of them is a choice of the world.
    """
    if plan == DONE:
        return []
    if isinstance(plan, tuple) and plan[0] == "then":
        return fronts(plan[1])
    if isinstance(plan, tuple) and plan[0] == "beside":
        return fronts(plan[1]) + fronts(plan[2])
    return [plan]


def _is_choice(front):
    """Whether the world chooses here."""
    return isinstance(front, tuple) and front[0] in ("either", "again")


def turn_of(plan):
    """Whose turn it is in a plan in normal form: "done", "world" or "staff"."""
    if plan == DONE:
        return "done"
    return "world" if any([_is_choice(front) for front in fronts(plan)]) else "staff"


def _replaced(plan, at, new):
    """The normal form of the plan with its front of this number replaced."""
    if isinstance(plan, tuple) and plan[0] == "then":
        return in_turn([_replaced(plan[1], at, new), *plan[2:]])
    if isinstance(plan, tuple) and plan[0] == "beside":
        # Neither part contains a "beside", so each of them has one front.
        if at == 0:
            return side_by_side(_replaced(plan[1], 0, new), plan[2])
        return side_by_side(plan[1], _replaced(plan[2], 0, new))
    return new


def _branches(front):
    """What an "either", an "again" or an "any" is replaced by, for each index."""
    if front[0] == "again":
        return [DONE, in_turn([front[1], front])]
    return list(front[1:])


def _picks(plan, at, front, word):
    """The ways in which one branch of the front of this number is taken."""
    return [(word, at, index, _replaced(plan, at, branch)) for index, branch in enumerate(_branches(front))]


def ways_of(plan):
    """All that can happen next to a plan in normal form, in order.

    Each way is ("choose", front, index, plan behind it), ("pick", place, index, plan behind it) or
    ("do", place, name of a task, plan behind it).
    """
    nexts = fronts(plan)
    for at, front in enumerate(nexts):
        if _is_choice(front):
            return _picks(plan, at, front, "choose")
    found = []
    for at, front in enumerate(nexts):
        if isinstance(front, tuple):
            found.extend(_picks(plan, at, front, "pick"))
        else:
            found.append(("do", at, front, _replaced(plan, at, DONE)))
    return found
