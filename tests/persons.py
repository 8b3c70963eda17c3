"""The games of the document written down a second time, with persons who are told apart by numbers.

A state is (plan, last, present): what is left of the plan, the last doers of each remembered name as a tuple of
frozensets of numbers of persons, and the persons who are still there as a frozenset. The kinds of the persons are a
tuple.
"""

import itertools

import reference


class TooBig(Exception):
    """A game has more states than a test has time for."""


def first_state(book, kinds):
    return reference.normal_form(book.plan), (frozenset(),) * len(book.remembered), frozenset(range(len(kinds)))


def deeds(book, kinds, state, name):
    """Each group of persons that can do a task, with the last doers behind it."""
    _, last, present = state
    named = {at: set(row) for at, row in zip(book.remembered, last)}
    for group in itertools.combinations(sorted(present), book[name].many):
        if reference.can_do(book, kinds, named, book[name], group):
            behind = reference.last_behind(book, named, name, group)
            yield group, tuple(frozenset(behind[at]) for at in book.remembered)


def state_moves(book, kinds, state):
    """All moves of the persons, each with the state behind it."""
    plan, last, present = state
    found = []
    for word, place, what, left in reference.plan_moves(plan):
        if word == "do":
            found += [(("do", place, group), (left, behind, present)) for group, behind in deeds(book, kinds, state, what)]
        else:
            found.append(((word, what) if word == "choose" else (word, place, what), (left, last, present)))
    return found


def without(state, person):
    """The state after a person was taken away."""
    plan, last, present = state
    return plan, tuple(row - {person} for row in last), present - {person}


class Game:
    """All states that are reached, the moves between them, and in how few moves each is reached."""

    def __init__(self, book, kinds, most=600):
        self.book, self.kinds = book, kinds
        self.first = first_state(book, kinds)
        self.turns, self.nexts, self.steps = {}, {}, {self.first: 0}
        found = [self.first]
        for state in found:
            self.turns[state] = reference.turn_of(state[0])
            self.nexts[state] = [behind for _, behind in state_moves(book, kinds, state)]
            for behind in self.nexts[state]:
                if behind not in self.steps:
                    self.steps[behind] = self.steps[state] + 1
                    found.append(behind)
            if len(found) > most:
                raise TooBig

    def good(self):
        """The states from which the persons need never be stuck."""
        good = set(self.turns)
        while True:
            bad = {state for state in good if not is_good(self.turns[state], self.nexts[state], good)}
            if not bad:
                return good
            good -= bad

    def always(self):
        return self.first in self.good()

    def steps_to_end(self):
        """The fewest moves to a complete plan, or None."""
        return min([self.steps[state] for state in self.steps if self.turns[state] == "done"], default=None)

    def steps_to_stuck(self):
        """The fewest moves to a state in which the persons are stuck, or None."""
        return min([self.steps[state] for state in self.steps if self.turns[state] == "staff" and not self.nexts[state]],
                   default=None)


def is_good(turn, nexts, good):
    """Whether a state is good if these ones are."""
    if turn == "done":
        return True
    kept = [behind in good for behind in nexts]
    return all(kept) if turn == "world" else any(kept)


def lasting(book, kinds, many, most=6000):
    """Whether persons always complete if any of so many of them are taken away, one by one, at any time."""
    first = (first_state(book, kinds), many)
    turns, nexts, taken, found, known = {}, {}, {}, [first], {first}
    for row in found:
        state, left = row
        turns[row] = reference.turn_of(state[0])
        nexts[row] = [(behind, left) for _, behind in state_moves(book, kinds, state)]
        taken[row] = [(without(state, person), left - 1) for person in state[2]] if left and turns[row] != "done" else []
        for behind in nexts[row] + taken[row]:
            if behind not in known:
                known.add(behind)
                found.append(behind)
        if len(found) > most:
            raise TooBig
    good = set(found)
    while True:
        bad = {row for row in good if not is_good(turns[row], nexts[row], good) or not all(one in good for one in taken[row])}
        if not bad:
            return first in good
        good -= bad


def staffs_of(kinds, most):
    """All staffs of at most so many persons, as tuples of the kinds of the persons."""
    return [found for many in range(most + 1) for found in itertools.combinations_with_replacement(sorted(kinds), many)]


# The checks of the document, at the stands of a book.

def can_make(staff, stand, move):
    return all(staff[kind] >= number for kind, number in reference.move_needs(stand, move).items())


def is_index(value, many):
    return value.__class__ is int and 0 <= value < many


def is_right_strategy(book, staff, value, known):
    """Whether a dict is a strategy, where the known stands are those that runs reach."""
    if reference.normal_form(book.plan) != book.plan or (book.plan, ()) not in value:
        return False
    for stand, move in value.items():
        if stand not in known:
            return False
        rows = reference.stand_moves(book, stand)
        if reference.turn_of(stand[0]) == "staff":
            behind = [to for known_move, to in rows if repr(known_move) == repr(move)]
            if not behind or not can_make(staff, stand, move) or behind[0] not in value:
                return False
        elif move is not None or any(to not in value for _, to in rows):
            return False
    return True


def is_right_attack(book, staff, value, known):
    """Whether a dict is an attack, likewise."""
    if (book.plan, ()) not in value:
        return False
    for stand, (rank, index) in value.items():
        turn = reference.turn_of(stand[0])
        if stand not in known or turn == "done" or rank.__class__ is not int or rank < 0:
            return False
        rows = reference.stand_moves(book, stand)
        if turn == "world":
            if not is_index(index, len(rows)):
                return False
            nexts = [rows[index][1]]
        else:
            if index is not None:
                return False
            nexts = [to for move, to in rows if can_make(staff, stand, move)]
        if any(to not in value or value[to][0] >= rank for to in nexts):
            return False
    return True


def is_right_barrier(book, staff, value, known):
    """Whether a tuple is a barrier, likewise."""
    if (book.plan, ()) not in value or len(set(value)) < len(value):
        return False
    for stand in value:
        turn = reference.turn_of(stand[0])
        if stand not in known or turn == "done":
            return False
        for move, to in reference.stand_moves(book, stand):
            if (turn == "world" or can_make(staff, stand, move)) and to not in value:
                return False
    return True


def end_of(book, staff, run):
    """The stand at the end of a run of a staff, or None if it is none."""
    stand = (book.plan, ())
    for move in run:
        behind = [to for known, to in reference.stand_moves(book, stand) if repr(known) == repr(move)]
        if not behind or not can_make(staff, stand, move):
            return None
        stand = behind[0]
    return stand


def small_book(random, kinds=("p", "q")):
    """A drawn book of up to three tasks with up to two kinds of persons."""
    while True:
        names = random.sample(["a", "b", "c"], random.choice([1, 2, 2, 3, 3]))
        roles = {kind: random.sample(["r", "s"], random.randint(0, 2)) for kind in kinds[:random.randint(1, len(kinds))]}
        tasks = {name: reference.random_task(random, names, [None, None, None, "r", "s"]) for name in names}
        plan = reference.random_plan(random, names, random.choice([2, 3]))
        if random.random() < 0.7:
            plan = ("then", plan, reference.random_plan(random, names, 2))
        try:
            return reference.Book(roles, tasks, plan)
        except reference.TooMany:
            pass


# The same games at the stands of a book, for staffs with more persons.

class StandGame:
    """The known stands of a book with a staff, which is a dict from kinds to numbers."""

    def __init__(self, book, known):
        self.book, self.known = book, known
        self.rows = {stand: [(move, reference.move_needs(stand, move), to) for move, to in reference.stand_moves(book, stand)]
                     for stand in known}
        self.turns = {stand: reference.turn_of(stand[0]) for stand in known}

    def nexts(self, stand, numbers):
        """The stands behind the choices of the world, or behind the moves that the staff can make."""
        return [to for _, needs, to in self.rows[stand]
                if self.turns[stand] == "world" or all(numbers[kind] >= needs[kind] for kind in needs)]

    def good(self, numbers):
        """The stands from which the staff need never be stuck."""
        nexts = {stand: self.nexts(stand, numbers) for stand in self.known}
        good = set(self.known)
        while True:
            bad = {stand for stand in good if not is_good(self.turns[stand], nexts[stand], good)}
            if not bad:
                return good
            good -= bad

    def reached(self, numbers):
        """The stands that the staff reaches."""
        found = [self.known[0]]
        for stand in found:
            found += [to for to in dict.fromkeys(self.nexts(stand, numbers)) if to not in found]
        return found


def all_numbers(kinds, most):
    """All staffs with numbers up to most, as dicts, ascending."""
    return [dict(zip(sorted(kinds), row)) for row in itertools.product(range(most + 1), repeat=len(kinds))]


def least_of(staffs):
    """The least ones of some staffs, in their order."""
    def is_below(one, other):
        return one != other and all(one[kind] <= other[kind] for kind in one)
    return [staff for staff in staffs if not any(is_below(other, staff) for other in staffs)]


def lasting_staff(book, staff, many, most=6000):
    """As lasting, for a dict from kinds to numbers, with stands instead of persons who are told apart."""
    first = ((book.plan, ()), tuple(staff[kind] for kind in sorted(book.kinds)), many)
    turns, nexts, taken, found, known = {}, {}, {}, [first], {first}
    for row in found:
        stand, numbers, left = row
        now = dict(zip(sorted(book.kinds), numbers))
        turns[row] = reference.turn_of(stand[0])
        nexts[row] = [(to, numbers, left) for move, to in reference.stand_moves(book, stand)
                      if all(now[kind] >= number for kind, number in reference.move_needs(stand, move).items())]
        taken[row] = [(to, tuple({**now, kind: now[kind] - 1}[at] for at in sorted(now)), left - 1)
                      for kind, to in ways_to_leave(stand, now)] if left and turns[row] != "done" else []
        for behind in nexts[row] + taken[row]:
            if behind not in known:
                known.add(behind)
                found.append(behind)
        if len(found) > most:
            raise TooBig
    good = set(found)
    while True:
        bad = {row for row in good if not is_good(turns[row], nexts[row], good) or not all(one in good for one in taken[row])}
        if not bad:
            return first in good
        good -= bad


def ways_to_leave(stand, now):
    """The kind of each person who can be taken away, with the stand that is left."""
    plan, blocks = stand
    found = [(kind, stand) for kind in now if now[kind] > [at for at, _ in blocks].count(kind)]
    return found + [(block[0], (plan, blocks[:at] + blocks[at + 1:])) for at, block in enumerate(blocks)]


def is_cast_run(book, cast, moves):
    """Whether moves of persons with numbers from 1 on are a complete run."""
    state = first_state(book, cast)
    for move in moves:
        found = None
        for known, behind in state_moves(book, cast, state):
            if known[0] == "do":
                known = ("do", known[1], tuple(person + 1 for person in known[2]))
            if repr(known) == repr(move):
                found = behind
        if found is None:
            return False
        state = found
    return reference.turn_of(state[0]) == "done"
