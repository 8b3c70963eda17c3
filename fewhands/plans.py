"""Plans: their normal forms, what can happen next in them, and their texts."""

from fewhands.errors import InvalidPlan, InvalidText
from fewhands.forms import check_plan, names_inside, normal_form
from fewhands.plantexts import read_part, text_of
from fewhands.ways import fronts, turn_of, ways_of


def normal(plan):
    """The normal form of a plan."""
    check_plan(plan)
    return normal_form(plan)


def is_plan(value):
    """Whether any value is a plan."""
    try:
        check_plan(value)
    except InvalidPlan:
        return False
    return True


def names_in(plan):
    """The ascending tuple of the different names of tasks in a plan."""
    return tuple(sorted(set(names_inside(plan))))


def turn(plan):
    """Whose turn it is: "done", "world" or "staff"."""
    return turn_of(normal(plan))


def choices(plan):
    """The plans that can follow by choices of the world, in order."""
    return [behind for word, _, _, behind in ways_of(normal(plan)) if word == "choose"]


def places(plan):
    """What stands at the places of the staff, in order."""
    form = normal(plan)
    return fronts(form) if turn_of(form) == "staff" else []


def plan_text(plan):
    """The text of a plan."""
    return text_of(plan)


def read_plan(text):
    """The plan with this text."""
    if not isinstance(text, str):
        raise InvalidText(0)
    plan, end = read_part(text, 0, False)
    if end < len(text):
        raise InvalidText(end)
    return plan
