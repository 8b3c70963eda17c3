"""Situations: the persons and the cases of an office at a moment."""

from fewhands.doers import blocks_of, last_without
from fewhands.forms import DONE


class Case:
    """What is left of the plan of a case, and the last doers of each remembered name. It never changes."""

    def __init__(self, left, last):
        self.left = left
        self.last = last

    def is_open(self):
        """Whether the plan is not complete."""
        return self.left != DONE


class Situation:
    """The kinds of persons by their names, and cases by their names. It never changes."""

    def __init__(self, people, opened):
        self.people = people
        self.opened = opened

    def with_case(self, name, case):
        """The situation with another case, or with a case after a move."""
        return Situation(self.people, {**self.opened, name: case})

    def with_person(self, person, kind):
        """The situation with one person more."""
        return Situation({**self.people, person: kind}, self.opened)

    def without_person(self, gone):
        """The situation without a person, who is no last doer any more."""
        people = {person: kind for person, kind in self.people.items() if person != gone}
        cases = {name: Case(case.left, last_without(case.last, gone)) for name, case in self.opened.items()}
        return Situation(people, cases)

    def has_person(self, value):
        """Whether any value is a person."""
        return isinstance(value, str) and value in self.people

    def has_case(self, value):
        """Whether any value is a case."""
        return isinstance(value, str) and value in self.opened

    def names_of_open(self):
        """The list of the names of the open cases, ascending."""
        return [name for name in sorted(list(self.opened)) if self.opened[name].is_open()]

    def stand(self, name):
        """The stand of a case."""
        case = self.opened[name]
        return (case.left, blocks_of(case.last, self.people))

    def counted(self):
        """How many persons of each kind there are: a dict."""
        kinds = list(self.people.values())
        return {kind: kinds.count(kind) for kind in kinds}
