"""Doers: who can do a task at a moment, and who has done it last, where persons are told apart."""

from fewhands.errors import DidLast, DidNotLast, LacksRole


def check_doer(task, roles, last, person):
    """Raises the error with what keeps a person with these roles from doing a task, if there is something.

    Here and below last is a dict from the remembered names, ascending, to the tuples of their last doers.
    """
    if task.role is not None and task.role not in roles:
        raise LacksRole(person)
    for name in task.other:
        if person in last[name]:
            raise DidLast(person, name)
    for name in task.same:
        if person not in last[name]:
            raise DidNotLast(person, name)


def last_after(task, name, last, group):
    """The last doers after a group has done the task with this name."""
    found = {}
    for at, persons in last.items():
        if at == name or at in task.takes:
            found[at] = tuple(sorted(list(group)))
        else:
            found[at] = () if at in task.forgets else persons
    return found


def last_without(last, gone):
    """The last doers after this person has gone."""
    return {name: tuple([person for person in persons if person != gone]) for name, persons in last.items()}


def blocks_of(last, kinds):
    """The blocks of the last doers, whose kinds are told by a dict."""
    names = {}
    for name, persons in last.items():
        for person in persons:
            names[person] = (*names.get(person, ()), name)
    return tuple(sorted([(kinds[person], done) for person, done in names.items()]))
