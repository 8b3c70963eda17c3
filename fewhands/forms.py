"""The forms of plans: which values are plans, and what their normal forms are."""

from fewhands.checks import is_word
from fewhands.errors import InvalidPlan

# The plan that is complete at once.
DONE = ("then",)

# For each word of a plan the fewest parts behind it, and the most, where there is a limit.
FEWEST = {"then": 0, "either": 1, "any": 1, "again": 1, "beside": 2}
MOST = {"again": 1, "beside": 2}


def is_word_of_plans(value):
    """Whether any value is one of the five words."""
    return isinstance(value, str) and value in FEWEST


def has_right_number(word, many):
    """Whether so many parts can stand behind one of the five words."""
    return FEWEST[word] <= many <= MOST.get(word, many)


def _is_right_alone(value, is_within):
    """Whether any value is no wrong part by itself; within says whether it stands in a "beside"."""
    if not isinstance(value, tuple):
        return is_word(value)
    if not value or not is_word_of_plans(value[0]):
        return False
    if is_within and value[0] == "beside":
        return False
    return has_right_number(value[0], len(value) - 1)


def check_plan(plan, is_within=False):
    """Raises the error with the first part of any value that is wrong by itself, if there is one."""
    if not _is_right_alone(plan, is_within):
        raise InvalidPlan(plan)
    if isinstance(plan, tuple):
        for part in plan[1:]:
            check_plan(part, is_within or plan[0] == "beside")


def in_turn(parts):
    """The normal form of a "then" with parts in normal form."""
    flat = []
    for part in parts:
        if isinstance(part, tuple) and part[0] == "then":
            flat.extend(part[1:])
        else:
            flat.append(part)
    return flat[0] if len(flat) == 1 else ("then", *flat)


def side_by_side(one, other):
    """The normal form of a "beside" with parts in normal form."""
    if one == DONE:
        return other
    if other == DONE:
        return one
    return ("beside", one, other)


def normal_form(plan):
    """The normal form of a plan that is right."""
    if not isinstance(plan, tuple):
        return plan
    parts = [normal_form(part) for part in plan[1:]]
    if plan[0] == "then":
        return in_turn(parts)
    if plan[0] == "beside":
        return side_by_side(parts[0], parts[1])
    return (plan[0], *parts)


def names_inside(plan):
    """The list of the names of tasks in a plan, each one as often as it occurs."""
    if not isinstance(plan, tuple):
        return [plan]
    return [name for part in plan[1:] for name in names_inside(part)]


def levels(plan):
    """How many levels a plan has."""
    if not isinstance(plan, tuple):
        return 0
    return 1 + max([levels(part) for part in plan[1:]], default=0)
