"""Missing: how many persons may be missing or leave, and which staffs are never stuck."""

from fewhands.games import can_make, is_stuck, paths, run_to
from fewhands.limits import CAP


def _too_many_missing(survey, numbers):
    """The fewest persons without whom the staff with these numbers does not always complete, as numbers, or None."""
    found = [
        [0 if limit == CAP else max(0, number - limit) for number, limit in zip(numbers, limits)]
        for limits in survey.greatest_losers()
    ]
    return min(found, key=sum, default=None)


def spared(book, staff):
    """The greatest number of persons that a staff spares, None if it does not always complete."""
    survey = book.survey()
    numbers = survey.numbers_of(staff)
    if not survey.wins(numbers):
        return None
    missing = _too_many_missing(survey, numbers)
    return sum(numbers) if missing is None else sum(missing) - 1


def critical(book, staff):
    """Any staff of one person more than a staff spares, without whose persons it does not always complete, or None."""
    survey = book.survey()
    numbers = survey.numbers_of(staff)
    if not survey.wins(numbers):
        return None
    missing = _too_many_missing(survey, numbers)
    return None if missing is None else survey.staff_of(missing)


def outlasted(book, staff):
    """The greatest number of persons, at most 4, that a staff outlasts, None if it does not always complete."""
    survey = book.survey()
    numbers = survey.numbers_of(staff)
    if not survey.wins(numbers):
        return None
    return survey.leaving().outlasted(numbers)


def is_safe(book, staff):
    """Whether a staff is never stuck, however it moves."""
    return stuck_run(book, staff) is None


def stuck_run(book, staff):
    """A shortest run at whose end a staff is stuck, or None."""
    survey = book.survey()
    graph = survey.graph
    numbers = survey.numbers_of(staff)
    can = can_make(graph, numbers)
    found = paths(graph, numbers)
    for at in found:
        if is_stuck(graph, can, at):
            return run_to(found, at)
    return None
