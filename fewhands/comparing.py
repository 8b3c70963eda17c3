"""Comparing: whether two books need the same staffs."""

from fewhands.errors import NotSameKinds


def _crowds(one, other, together):
    """The crowds of the staffs that always complete, or can complete together, each of two books."""
    surveys = [one.survey(), other.survey()]
    if list(one.kinds) != list(other.kinds):
        raise NotSameKinds()
    if together:
        return [survey.bands() for survey in surveys]
    return [survey.winners()[0] for survey in surveys]


def are_alike(one, other, *, together=False):
    """Whether two books are always completed, or can be completed together, by the same staffs."""
    first, second = _crowds(one, other, together)
    return first == second


def asks_no_more(one, other, *, together=False):
    """Whether each staff that always completes, or can complete, the other book does so with the one."""
    first, second = _crowds(one, other, together)
    return second & ~first == 0


def parting(one, other, *, together=False):
    """Any staff with the fewest persons that always completes, or can complete, exactly one of two books, or None."""
    first, second = _crowds(one, other, together)
    survey = one.survey()
    numbers = min(survey.crowds.members(first ^ second), key=sum, default=None)
    return None if numbers is None else survey.staff_of(numbers)
