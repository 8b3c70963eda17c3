"""Offices written down a second time: states are copied as a whole, and errors are tuples instead of exceptions."""

import copy

import reference

LETTERS = set("abcdefghijklmnopqrstuvwxyz")


class Wrong(Exception):
    """An error with the name of its class and its fields."""


def is_word(value):
    return isinstance(value, str) and 1 <= len(value) <= 8 and set(value) <= LETTERS


def is_index(value, many):
    return value.__class__ is int and 0 <= value < many


def is_in(value, names):
    return isinstance(value, str) and value in names


class Model:
    """An office; guarded and logged if asked for."""

    def __init__(self, book, persons, is_guarded=False):
        self.book = book
        self.persons, self.cases = dict(persons), {}
        self.past, self.future, self.log = [], [], []
        self.blocks = []
        self.is_guarded = is_guarded

    def state(self):
        return copy.deepcopy((self.persons, self.cases))

    def act(self, change, *entry):
        before = self.state()
        change()
        if self.is_guarded:
            hopeless = self.first_hopeless()
            if hopeless is not None:
                self.persons, self.cases = before
                raise Wrong("Hopeless", hopeless)
        if self.blocks:
            self.blocks[-1][1] = True
        else:
            self.past.append(before)
            self.future = []
        self.log.append(entry)

    def first_hopeless(self):
        for case in sorted(self.cases):
            if self.cases[case][0] != reference.DONE and not self.completes(case):
                return case
        return None

    def completes(self, case, stand=None):
        """Whether the staff always completes a case: by the greatest set of good stands."""
        kinds = list(self.persons.values())
        staff = {kind: kinds.count(kind) for kind in self.book.kinds}
        rows, found = {}, [stand or self.stand(case)]
        for at in found:
            rows[at] = [(move, reference.move_needs(at, move), to) for move, to in reference.stand_moves(self.book, at)]
            found += [to for to in dict.fromkeys(to for _, _, to in rows[at]) if to not in found]
        good = set(found)
        while True:
            bad = set()
            for at in good:
                turn = reference.turn_of(at[0])
                nexts = [to in good for _, needs, to in rows[at] if turn == "world" or all(staff[kind] >= needs[kind] for kind in needs)]
                if turn == "world" and not all(nexts) or turn == "staff" and not any(nexts):
                    bad.add(at)
            if not bad:
                return found[0] in good
            good -= bad

    def known(self, case):
        if not is_in(case, self.cases):
            raise Wrong("UnknownCase", case)
        return self.cases[case]

    def stand(self, case):
        plan, last = self.known(case)
        names = {person: tuple(name for name in sorted(last) if person in last[name]) for person in self.persons}
        return plan, tuple(sorted((self.persons[person], names[person]) for person in names if names[person]))

    def doers(self, case, name):
        _, last = self.known(case)
        return tuple(sorted(last[name])) if is_in(name, last) else ()

    def put(self, case, plan, last):
        self.cases[case] = (plan, last)

    def start(self, case):
        if not is_word(case):
            raise Wrong("InvalidName", case)
        if case in self.cases:
            raise Wrong("Clash", case)
        last = {name: set() for name in self.book.remembered}
        self.act(lambda: self.put(case, reference.normal_form(self.book.plan), last), "start", case)

    def choose(self, case, index):
        plan, last = self.known(case)
        rows = reference.plan_moves(plan)
        if reference.turn_of(plan) != "world" or not is_index(index, len(rows)):
            raise Wrong("NotNow", index)
        self.act(lambda: self.put(case, rows[index][3], last), "choose", case, index)

    def pick(self, case, index, place=None):
        plan, last = self.known(case)
        rows = [row for row in reference.plan_moves(plan) if row[0] == "pick"]
        at = min([row[1] for row in rows], default=None) if place is None else place
        if at.__class__ is not int or at not in [row[1] for row in rows]:
            raise Wrong("NotNow", place)
        rows = [row for row in rows if row[1] == at]
        if not is_index(index, len(rows)):
            raise Wrong("NotNow", index)
        self.act(lambda: self.put(case, rows[index][3], last), "pick", case, at, index)

    def do(self, case, task, *persons, place=None):
        plan, last = self.known(case)
        rows = [row for row in reference.plan_moves(plan) if row[0] == "do" and isinstance(task, str) and row[2] == task]
        if place is not None:
            rows = [row for row in rows if place.__class__ is int and row[1] == place]
        if not rows:
            raise Wrong("NotNow", task)
        for person in persons:
            if not is_in(person, self.persons):
                raise Wrong("UnknownPerson", person)
        for at, person in enumerate(persons):
            if person in persons[:at]:
                raise Wrong("Twice", person)
        told = self.book[task]
        if len(persons) != told.many:
            raise Wrong("WrongNumber", told.many)
        for person in persons:
            if told.role is not None and told.role not in self.book.kinds[self.persons[person]]:
                raise Wrong("LacksRole", person)
            for name in sorted(told.other):
                if person in last[name]:
                    raise Wrong("DidLast", person, name)
            for name in sorted(told.same):
                if person not in last[name]:
                    raise Wrong("DidNotLast", person, name)
        behind = reference.last_behind(self.book, last, task, persons)
        self.act(lambda: self.put(case, rows[0][3], behind), "do", case, rows[0][1], task, persons)

    def join(self, person, kind):
        if not is_word(person):
            raise Wrong("InvalidName", person)
        if person in self.persons:
            raise Wrong("Clash", person)
        if not is_in(kind, self.book.kinds):
            raise Wrong("UnknownKind", kind)
        self.act(lambda: self.persons.__setitem__(person, kind), "join", person, kind)

    def leave(self, person):
        if not is_in(person, self.persons):
            raise Wrong("UnknownPerson", person)

        def change():
            del self.persons[person]
            for plan, last in self.cases.values():
                for name in last:
                    last[name] = last[name] - {person}
        self.act(change, "leave", person)

    def undo(self, count=1):
        if self.blocks:
            raise Wrong("InTrial")
        if not is_index(count, len(self.past) + 1) or count == 0:
            raise Wrong("OutOfRange", count)
        for _ in range(count):
            self.future.append(self.state())
            self.persons, self.cases = self.past.pop()
        self.log.append(("undo", count))

    def redo(self, count=1):
        if self.blocks:
            raise Wrong("InTrial")
        if not is_index(count, len(self.future) + 1) or count == 0:
            raise Wrong("OutOfRange", count)
        for _ in range(count):
            self.past.append(self.state())
            self.persons, self.cases = self.future.pop()
        self.log.append(("redo", count))

    def begin(self):
        self.blocks.append([self.state(), False])

    def end(self, is_kept):
        before, is_changed = self.blocks.pop()
        if not is_kept:
            self.persons, self.cases = before
        elif is_changed and self.blocks:
            self.blocks[-1][1] = True
        elif is_changed:
            self.past.append(before)
            self.future = []
        self.log.append(("trial", is_kept))

    def helpful(self, case):
        stand = self.stand(case)
        if reference.turn_of(stand[0]) != "staff":
            return []
        kinds = list(self.persons.values())
        return [move for move, to in reference.stand_moves(self.book, stand)
                if all(kinds.count(kind) >= many for kind, many in reference.move_needs(stand, move).items()) and self.completes(case, to)]

    def seen(self):
        """All that can be seen of an office."""
        kinds = list(self.persons.values())
        return {
            "persons": sorted(self.persons.items()), "staff": {kind: kinds.count(kind) for kind in sorted(set(kinds))},
            "cases": tuple(sorted(self.cases)), "running": tuple(case for case in sorted(self.cases) if self.cases[case][0] != reference.DONE),
            "undoable": len(self.past), "redoable": len(self.future), "depth": len(self.blocks),
            "stands": [self.stand(case) for case in sorted(self.cases)],
            "doers": [self.doers(case, name) for case in sorted(self.cases) for name in self.book.remembered],
        }


def seen(office):
    """All that can be seen of an office, as in the model."""
    return {
        "persons": list(office.persons.items()), "staff": office.staff.numbers(), "cases": office.cases, "running": office.running,
        "undoable": office.undoable, "redoable": office.redoable, "depth": office.depth,
        "stands": [office.stand(case) for case in office.cases],
        "doers": [office.doers(case, name) for case in office.cases for name in office.book.remembered],
    }
