"""Casts: runs of persons who are told apart by numbers."""

from fewhands.checks import is_whole
from fewhands.doers import check_doer, last_after
from fewhands.errors import DidLast, DidNotLast, LacksRole
from fewhands.forms import DONE
from fewhands.steps import is_move_like
from fewhands.ways import ways_of


class Cast:
    """Persons with these kinds, numbered from 1 on, who go through the plan of a book."""

    def __init__(self, book, kinds):
        self._book = book
        self._roles = book.kinds
        self._kinds = kinds
        self._last = {name: () for name in book.remembered}
        self._plan = book.plan

    def is_done(self):
        """Whether the plan is complete."""
        return self._plan == DONE

    def _is_group(self, task, value):
        """Whether any value is a group of persons who can do the task."""
        if not isinstance(value, tuple) or len(value) != task.many:
            return False
        if not all([is_whole(person, 1, len(self._kinds)) for person in value]) or sorted(set(value)) != list(value):
            return False
        try:
            for person in value:
                check_doer(task, self._roles[self._kinds[person - 1]], self._last, person)
        except (LacksRole, DidLast, DidNotLast):
            return False
        return True

    def _is_deed(self, at, name, move):
        """Whether any value that is like a move is a deed at this place by persons who can do it."""
        return len(move) == 3 and move[:2] == ("do", at) and self._is_group(self._book[name], move[2])

    def go_on(self, value):
        """Makes any value that is a move of these persons, and tells whether it is one."""
        if not is_move_like(value):
            return False
        for word, at, what, left in ways_of(self._plan):
            if word == "do" and self._is_deed(at, what, value):
                self._last = last_after(self._book[what], what, self._last, value[2])
                self._plan = left
                return True
            if word == "choose" and value == ("choose", what) or word == "pick" and value == ("pick", at, what):
                self._plan = left
                return True
        return False

    def _member(self, person):
        """What is known of a person at a stand."""
        names = [name for name, persons in self._last.items() if person in persons]
        return (self._kinds[person - 1], tuple(names))

    def group_like(self, members):
        """A group of persons who are these members, of whom there are enough."""
        wanted = list(members)
        found = []
        for person in range(1, len(self._kinds) + 1):
            member = self._member(person)
            if member in wanted:
                wanted.remove(member)
                found.append(person)
        return tuple(found)


def is_cast_run(book, kinds, moves):
    """Whether moves, which may be any values, are a complete run of persons with these kinds."""
    cast = Cast(book, kinds)
    return all([cast.go_on(move) for move in moves]) and cast.is_done()


def cast_run(book, staff, run):
    """A cast run that is made like a run of a staff."""
    kinds = tuple([kind for kind in staff.kinds for _ in range(staff[kind])])
    cast = Cast(book, kinds)
    moves = []
    for move in run:
        made = ("do", move[1], cast.group_like(move[2])) if move[0] == "do" else move
        cast.go_on(made)
        moves.append(made)
    return (kinds, tuple(moves))
