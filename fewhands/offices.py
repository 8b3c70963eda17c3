"""Offices: procedures that run, and offices that refuse what a case could not be completed after."""

from fewhands.actions import check_group, chosen, done, picked, place_to_do, place_to_pick
from fewhands.checks import is_whole, is_word
from fewhands.errors import Clash, Hopeless, InTrial, InvalidName, OutOfRange, UnknownCase, UnknownKind, UnknownPerson
from fewhands.histories import History, Trial
from fewhands.prospects import Prospects
from fewhands.situations import Case, Situation
from fewhands.staffs import Staff
from fewhands.steps import needed


def _is_kind(book, value):
    """Whether any value is a kind of a book."""
    return isinstance(value, str) and value in book.kinds


def _checked_people(book, persons):
    """A copy of any value that is a dict from names of persons to kinds."""
    if not isinstance(persons, dict) or not all([is_word(person) for person in persons]):
        raise InvalidName(persons)
    names = sorted(list(persons))
    for person in names:
        if not _is_kind(book, persons[person]):
            raise UnknownKind(persons[person])
    return {person: persons[person] for person in names}


class Office:
    """A book, persons by name, each of a kind, and cases by name, each at a stand."""

    def __init__(self, book, persons):
        people = _checked_people(book, persons)
        self._book = book.copied()
        self._history = History(Situation(people, {}))

    @property
    def book(self):
        """A new copy of the book."""
        return self._book.copied()

    @property
    def persons(self):
        """A new dict of the persons with their kinds."""
        people = self._history.now.people
        return {person: people[person] for person in sorted(list(people))}

    @property
    def staff(self):
        """The present staff."""
        return Staff.of(self._history.now.counted())

    @property
    def cases(self):
        """The ascending tuple of all cases."""
        return tuple(sorted(list(self._history.now.opened)))

    @property
    def running(self):
        """The ascending tuple of the cases that are open."""
        return tuple(self._history.now.names_of_open())

    @property
    def undoable(self):
        """How many actions can be taken back."""
        return len(self._history.past)

    @property
    def redoable(self):
        """How many actions can be repeated."""
        return len(self._history.future)

    @property
    def depth(self):
        """How many blocks are in progress."""
        return self._history.blocks

    def _case(self, case):
        """What is known of any value that is a case."""
        if not self._history.now.has_case(case):
            raise UnknownCase(case)
        return self._history.now.opened[case]

    def _check(self, situation):
        """Raises an error if an action must not lead to a situation."""

    def _note(self, entry):
        """Notes what was done without an error."""

    def _entries_of_blocks(self):
        """The list in which the ends of blocks are noted."""
        return []

    def _act(self, situation, entry):
        """Goes on to the situation after an action."""
        self._check(situation)
        self._history.go_on(situation)
        self._note(entry)

    def start(self, case):
        """Starts a new case."""
        if not is_word(case):
            raise InvalidName(case)
        if self._history.now.has_case(case):
            raise Clash(case)
        new = Case(self._book.plan, {name: () for name in self._book.remembered})
        self._act(self._history.now.with_case(case, new), ("start", case))

    def stand(self, case):
        """The stand of a case."""
        self._case(case)
        return self._history.now.stand(case)

    def doers(self, case, name):
        """The ascending tuple of the last doers of any value that is a remembered name."""
        last = self._case(case).last
        return last[name] if isinstance(name, str) and name in last else ()

    def choose(self, case, index):
        """Makes a choice of the world."""
        new = chosen(self._case(case), index)
        self._act(self._history.now.with_case(case, new), ("choose", case, index))

    def pick(self, case, index, *, place=None):
        """Replaces the "any" at a place, or the first one, by one of its parts."""
        old = self._case(case)
        at = place_to_pick(old, place)
        self._act(self._history.now.with_case(case, picked(old, at, index)), ("pick", case, at, index))

    def do(self, case, task, *persons, place=None):
        """Lets persons do the task at a place, or at the first one where it stands."""
        old = self._case(case)
        at = place_to_do(old, task, place)
        check_group(self._history.now, self._book.kinds, self._book[task], old.last, persons)
        new = done(old, task, self._book[task], at, persons)
        self._act(self._history.now.with_case(case, new), ("do", case, at, task, persons))

    def join(self, person, kind):
        """Lets a new person come."""
        if not is_word(person):
            raise InvalidName(person)
        if self._history.now.has_person(person):
            raise Clash(person)
        if not _is_kind(self._book, kind):
            raise UnknownKind(kind)
        self._act(self._history.now.with_person(person, kind), ("join", person, kind))

    def leave(self, person):
        """Lets a person go."""
        if not self._history.now.has_person(person):
            raise UnknownPerson(person)
        self._act(self._history.now.without_person(person), ("leave", person))

    def undo(self, count=1):
        """Takes back the last actions."""
        if self.depth > 0:
            raise InTrial()
        if not is_whole(count, 1, self.undoable):
            raise OutOfRange(count)
        self._history.go_back(count)
        self._note(("undo", count))

    def redo(self, count=1):
        """Repeats the last actions that were taken back."""
        if self.depth > 0:
            raise InTrial()
        if not is_whole(count, 1, self.redoable):
            raise OutOfRange(count)
        self._history.repeat(count)
        self._note(("redo", count))

    def trial(self):
        """An object for one with block, at whose end what was done in it is taken back if it is not kept."""
        return Trial(self, self._history, self._entries_of_blocks())

    def attempt(self, action):
        """What an action returns that is called with the office in a block that is kept."""
        block = self.trial()
        block.keep()
        with block as office:
            return action(office)

    def tried(self, action):
        """What an action returns that is called with the office in a block that is not kept."""
        with self.trial() as office:
            return action(office)


class GuardedOffice(Office):
    """An office that refuses each action after which the present staff does not always complete an open case."""

    def __init__(self, book, persons):
        super().__init__(book, persons)
        self._prospects = Prospects(self._book.steps(), self._book.kinds)

    def _check(self, situation):
        """Raises an error with the first open case that is not always completed."""
        for case in situation.names_of_open():
            if not self._prospects.always_completes(situation.counted(), situation.stand(case)):
                raise Hopeless(case)

    def helpful(self, case):
        """The list of the moves of the staff after which it always completes a case."""
        self._case(case)
        now = self._history.now
        stand = now.stand(case)
        counted = now.counted()
        return [
            move for move, behind in self._book.steps().following(stand)
            if move[0] != "choose" and _has_enough(counted, needed(stand, move))
            and self._prospects.always_completes(counted, behind)
        ]


def _has_enough(counted, needs):
    """Whether a staff has as many persons of each kind as are needed, where both are dicts."""
    return all([counted.get(kind, 0) >= number for kind, number in needs.items()])


class LoggedOffice(Office):
    """An office with a log of what was done without an error."""

    def __init__(self, book, persons):
        super().__init__(book, persons)
        self._entries = []

    def _note(self, entry):
        """Notes what was done in the log."""
        self._entries.append(entry)

    def _entries_of_blocks(self):
        """The list of the entries of the log."""
        return self._entries

    @property
    def log(self):
        """The tuple of what was done, in order."""
        return tuple(self._entries)


class GuardedLoggedOffice(GuardedOffice, LoggedOffice):
    """A guarded office with a log."""

    def __init__(self, book, persons):
        super().__init__(book, persons)

    def helpful(self, case):
        """The list of the moves of the staff after which it always completes a case."""
        return super().helpful(case)

    @property
    def log(self):
        """The tuple of what was done, in order."""
        return tuple(self._entries)
