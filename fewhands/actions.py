"""Actions: what a choice, a pick or a deed makes of a case."""

from fewhands.checks import is_natural, is_whole
from fewhands.doers import check_doer, last_after
from fewhands.errors import NotNow, Twice, UnknownPerson, WrongNumber
from fewhands.situations import Case
from fewhands.ways import ways_of


def chosen(case, index):
    """The case after a choice of the world by any value of index."""
    rows = [row for row in ways_of(case.left) if row[0] == "choose"]
    if not is_whole(index, 0, len(rows) - 1):
        raise NotNow(index)
    return Case(rows[index][3], case.last)


def place_to_pick(case, place):
    """The number of the place with an "any" that any value of place means."""
    places = [row[1] for row in ways_of(case.left) if row[0] == "pick"]
    if place is None and places:
        return places[0]
    if not is_natural(place) or place not in places:
        raise NotNow(place)
    return place


def picked(case, place, index):
    """The case after a pick, by any value of index, at a place with an "any"."""
    rows = [row for row in ways_of(case.left) if row[1] == place]
    if not is_whole(index, 0, len(rows) - 1):
        raise NotNow(index)
    return Case(rows[index][3], case.last)


def place_to_do(case, task, place):
    """The number of the place where any value of task stands, and that any value of place means."""
    places = [row[1] for row in ways_of(case.left) if row[0] == "do" and row[2] == task]
    if place is None and places:
        return places[0]
    if not is_natural(place) or place not in places:
        raise NotNow(task)
    return place


def check_group(situation, kinds, task, last, persons):
    """Raises the first error if any values are not the persons of a group that can do a task."""
    for person in persons:
        if not situation.has_person(person):
            raise UnknownPerson(person)
    for at, person in enumerate(persons):
        if person in persons[:at]:
            raise Twice(person)
    if len(persons) != task.many:
        raise WrongNumber(task.many)
    for person in persons:
        check_doer(task, kinds[situation.people[person]], last, person)


def done(case, name, task, place, persons):
    """The case after a group has done the task with this name at a place."""
    lefts = [row[3] for row in ways_of(case.left) if row[1] == place]
    return Case(lefts[0], last_after(task, name, case.last, persons))
