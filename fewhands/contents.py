"""Checks of what a book is made of, which may be values of any kind."""

from fewhands.checks import are_words, is_word
from fewhands.errors import InvalidKinds, InvalidTasks, TooMany, UnknownTask
from fewhands.forms import check_plan, levels, names_inside, normal_form
from fewhands.limits import KINDS, LEVELS, NAMES, ROLES, TASKS
from fewhands.tasks import Task


def are_roles(value):
    """Whether any value is a list of roles for one kind."""
    return are_words(value) and len(value) <= ROLES


def _are_kinds(value):
    """Whether any value is a dict of the kinds of a book."""
    if not isinstance(value, dict) or not 1 <= len(value) <= KINDS:
        return False
    return all([is_word(kind) and are_roles(roles) for kind, roles in value.items()])


def checked_kinds(kinds):
    """The kinds, ascending, with ascending tuples of their roles."""
    if not _are_kinds(kinds):
        raise InvalidKinds(kinds)
    return {kind: tuple(sorted(kinds[kind])) for kind in sorted(list(kinds))}


def are_tasks(value):
    """Whether any value is a dict from words to tasks."""
    if not isinstance(value, dict):
        return False
    return all([is_word(name) and isinstance(task, Task) for name, task in value.items()])


def checked_tasks(tasks):
    """The tasks by ascending names."""
    if not are_tasks(tasks):
        raise InvalidTasks(tasks)
    if len(tasks) > TASKS:
        raise TooMany(TASKS)
    return {name: tasks[name] for name in sorted(list(tasks))}


def checked_plan(plan, tasks):
    """The normal form of a plan for these tasks."""
    check_plan(plan)
    names = sorted(names_inside(plan))
    if len(names) > NAMES:
        raise TooMany(NAMES)
    form = normal_form(plan)
    if levels(form) > LEVELS:
        raise TooMany(LEVELS)
    for name in names:
        if name not in tasks:
            raise UnknownTask(name)
    return form
