"""Stands: where a run can be, and the moves from there."""

from fewhands.errors import UnknownMove, UnknownStand
from fewhands.staffs import Staff
from fewhands.steps import is_move_like, needed


def _following(book, stand):
    """All moves at any value that is a stand, in order, each with the stand behind it."""
    steps = book.steps()
    if not steps.is_stand(stand):
        raise UnknownStand(stand)
    return steps.following(stand)


def _behind(book, stand, move):
    """The stand behind a move, where both may be any value."""
    rows = _following(book, stand)
    if is_move_like(move):
        for known, behind in rows:
            if known == move:
                return behind
    raise UnknownMove(move)


def first_stand(book):
    """The stand from which the runs of the book start."""
    return (book.plan, ())


def moves(book, stand):
    """The list of all moves at a stand that some staff can make."""
    return [move for move, _ in _following(book, stand)]


def after(book, stand, move):
    """The stand that follows a move."""
    return _behind(book, stand, move)


def needs(book, stand, move):
    """The persons that a move needs."""
    _behind(book, stand, move)
    return Staff.of(needed(stand, move))


def stands(book):
    """The list of all stands that runs of staffs reach, in the order in which they are met."""
    return list(book.survey().graph.stands)
