"""What a book remembers: names of tasks, with the persons who did them last."""

from fewhands.errors import TooMany
from fewhands.limits import REMEMBERED, WIDTH


def remembered_names(tasks):
    """The ascending tuple of the names that are remembered with these tasks."""
    return tuple(sorted(set([name for task in tasks.values() for name in task.other + task.same])))


def _most_doers(tasks, name):
    """How many last doers a remembered name can have."""
    return max([task.many for at, task in tasks.items() if at == name or name in task.takes], default=0)


def width_of(tasks):
    """The width of a book with these tasks."""
    return sum([_most_doers(tasks, name) for name in remembered_names(tasks)])


def check_memory(tasks):
    """Raises the error of a book that has to remember too much."""
    if len(remembered_names(tasks)) > REMEMBERED:
        raise TooMany(REMEMBERED)
    if width_of(tasks) > WIDTH:
        raise TooMany(WIDTH)
