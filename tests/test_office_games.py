import random
import unittest

from fewhands import errors
from fewhands.books import Book
from fewhands.missing import is_safe
from fewhands.offices import GuardedLoggedOffice, GuardedOffice, LoggedOffice, Office
from fewhands.staffs import Staff
from fewhands.stands import moves, stands
from fewhands.tasks import Task
from fewhands.winning import always
from office_model import Model, Wrong, seen
from persons import small_book
from reference import plan_moves
from samples import DONE
from values import many_kinds

PERSONS = ["ann", "bob", "cy", "dan", "eve"]
CASES = ["x", "y", "z"]


class Stop(Exception):
    """An error that leaves a block."""


class TestOfficeGames(unittest.TestCase):
    """Drawn actions, right and wrong, in drawn blocks, beside a second writing of offices."""

    def setUp(self):
        self.counts = {}

    def one(self, made, names, wrong=0.05):
        """One of some names, or any value."""
        return made.choice(many_kinds()) if made.random() < wrong else made.choice(names)

    def drawn_call(self, made, model):
        """A name of a method with arguments."""
        name = made.choice(["start", "choose", "choose", "pick", "pick"] + ["do"] * 6 + ["join", "leave", "undo", "redo"] + ["move", "near"] * 4)
        case, person = self.one(made, CASES), self.one(made, PERSONS)
        if name in ("move", "near"):
            return self.drawn_move(made, model) if name == "move" else self.drawn_deed(made, model)
        if name == "start":
            return name, (case,), {}
        if name in ("choose", "pick"):
            places = {} if name == "choose" or made.random() < 0.6 else {"place": self.one(made, [0, 1, 2, None, True])}
            return name, (case, self.one(made, [0, 1, 2])), places
        if name == "do":
            persons = tuple(self.one(made, PERSONS, 0.02) for _ in range(made.choice([0, 1, 1, 1, 2, 2, 3])))
            places = {} if made.random() < 0.6 else {"place": self.one(made, [0, 1, 2, None, False])}
            return name, (case, self.one(made, list(model.book.names))) + persons, places
        if name == "join":
            return name, (person, self.one(made, sorted(model.book.kinds))), {}
        if name == "leave":
            return name, (person,), {}
        return name, made.choice([(), (1,), (2,), (3,), (0,), (True,), (self.one(made, [1], 0.5),)]), {}

    def drawn_deed(self, made, model):
        """A deed or a pick that stands in an open case, by persons who need not be the right ones."""
        found = [(case, row) for case in model.seen()["running"] for row in plan_moves(model.cases[case][0]) if row[0] != "choose"]
        if not found:
            return "start", (made.choice(CASES),), {}
        case, (word, place, what, _) = made.choice(found)
        if word == "pick":
            return "pick", (case, what), {"place": place}
        many = min(model.book[what].many, len(model.persons))
        return "do", (case, what, *made.sample(sorted(model.persons), many)), {}

    def drawn_move(self, made, model):
        """A move of an open case, by persons who are drawn until one group fits, if there is one."""
        running = model.seen()["running"]
        if not running:
            return "start", (made.choice(CASES),), {}
        case = made.choice(running)
        rows = moves(model.book, model.stand(case))
        if not rows:
            return "start", (made.choice(CASES),), {}
        move = made.choice(rows)
        if move[0] == "choose":
            return "choose", (case, move[1]), {}
        if move[0] == "pick":
            return "pick", (case, move[2]), {"place": move[1]}
        plan, last = model.cases[case]
        members = {person: (model.persons[person], tuple(name for name in sorted(last) if person in last[name])) for person in model.persons}
        group = []
        for member in move[2]:
            free = [person for person in members if members[person] == member and person not in group]
            group += made.sample(free, min(1, len(free)))
        made.shuffle(group)
        task = [row[2] for row in plan_moves(plan) if row[0] == "do" and row[1] == move[1]][0]
        return "do", (case, task, *group), {"place": move[1]}

    def assert_alike(self, office, model, call):
        name, arguments, named = call
        before = seen(office)
        told = expected = None
        try:
            getattr(model, name)(*arguments, **named)
        except Wrong as wrong:
            expected = wrong.args
        try:
            self.assertIsNone(getattr(office, name)(*arguments, **named))
        except (ValueError, LookupError, OverflowError, RuntimeError) as error:
            told = (error.__class__.__name__, *vars(error).values())
            self.assertIs(error.__class__, getattr(errors, told[0]))
            self.assertEqual(seen(office), before)
        self.assertEqual(repr(told), repr(expected), (call, model.book.text()))
        key = (name, expected and expected[0])
        self.counts[key] = self.counts.get(key, 0) + 1
        self.assertEqual(seen(office), model.seen(), (call, model.book.text()))
        if hasattr(office, "log"):
            self.assertEqual(office.log, tuple(model.log))
        if hasattr(office, "helpful"):
            self.assert_helpful(office, model)

    def assert_helpful(self, office, model):
        for case in office.cases:
            found = office.helpful(case)
            self.assertEqual(found, model.helpful(case))
            if case in office.running and moves(model.book, office.stand(case))[0][0] != "choose":
                self.assertTrue(found)

    def play(self, made, office, model, many, depth=0):
        """Drawn actions; some in blocks that are kept or not, or left by an error."""
        for _ in range(many):
            if depth < 3 and made.random() < 0.06:
                self.block(made, office, model, depth)
            else:
                self.assert_alike(office, model, self.drawn_call(made, model))

    def block(self, made, office, model, depth):
        is_kept, is_stopped, way = made.random() < 0.6, made.random() < 0.2, made.choice(["trial", "call"])

        def action(same):
            self.assertIs(same, office)
            self.play(made, office, model, made.randint(0, 6), depth + 1)
            if is_stopped:
                raise Stop
            return depth, many_kinds()
        model.begin()
        try:
            if way == "trial":
                trial = office.trial()
                with trial as same:
                    if is_kept:
                        trial.keep()
                    action(same)
            else:
                told = office.attempt(action) if is_kept else office.tried(action)
                self.assertEqual(told[0], depth)
        except Stop:
            self.assertTrue(is_stopped)
        else:
            self.assertFalse(is_stopped)
        model.end(is_kept and not is_stopped)
        self.assertEqual(seen(office), model.seen())
        if hasattr(office, "log"):
            self.assertEqual(office.log, tuple(model.log))
        self.counts["block", is_kept, is_stopped] = self.counts.get(("block", is_kept, is_stopped), 0) + 1

    def game(self, made, book, make, is_guarded, many):
        persons = {person: made.choice(sorted(book.kinds)) for person in made.sample(PERSONS, made.randint(0, 5))}
        self.play(made, make(book, persons), Model(book, persons, is_guarded), many)

    def test_offices(self):
        made = random.Random(150)
        for _ in range(250):
            self.game(made, small_book(made), made.choice([Office, LoggedOffice]), False, 60)
        for name in ("UnknownCase", "NotNow", "UnknownPerson", "Twice", "WrongNumber", "LacksRole", "DidLast", "DidNotLast"):
            self.assertGreater(self.counts["do", name], 10, name)
        for key in (("do", None), ("choose", None), ("pick", None), ("start", None), ("join", None), ("leave", None), ("undo", None), ("redo", None),
                    ("start", "Clash"), ("start", "InvalidName"), ("join", "Clash"), ("join", "InvalidName"), ("join", "UnknownKind"),
                    ("leave", "UnknownPerson"), ("undo", "OutOfRange"), ("redo", "OutOfRange"), ("undo", "InTrial"), ("redo", "InTrial"),
                    ("choose", "NotNow"), ("pick", "NotNow"), ("choose", "UnknownCase"), ("pick", "UnknownCase")):
            self.assertGreater(self.counts.get(key, 0), 5, key)
        for is_kept in (True, False):
            for is_stopped in (True, False):
                self.assertGreater(self.counts["block", is_kept, is_stopped], 5)

    def test_guarded_offices(self):
        made = random.Random(151)
        tried = 0
        boss = Book({"p": ["r"], "q": ["r", "s"]}, {"a": Task("r"), "b": Task("s", other=["a"]), "c": Task(same=["a"])},
                    ("then", "a", ("beside", "b", ("any", "c", "a", DONE))))
        while tried < 120:
            book = boss if tried % 4 == 1 else small_book(made)
            # Mostly books in which something can be done wrong that three persons of each kind can do right.
            staff = Staff.of({kind: 3 for kind in book.kinds})
            if book is boss or len(stands(book)) <= 60 and (tried % 8 == 0 or always(book, staff) and not is_safe(book, staff)):
                tried += 1
                self.game(made, book, made.choice([GuardedOffice, GuardedLoggedOffice]), True, 40)
        for name in ("start", "choose", "pick", "do", "leave"):
            self.assertGreater(self.counts.get((name, None), 0), 10, name)
        for name in ("start", "pick", "do", "leave"):
            self.assertGreater(self.counts.get((name, "Hopeless"), 0), 5, name)


if __name__ == "__main__":
    unittest.main()
