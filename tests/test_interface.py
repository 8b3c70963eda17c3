import importlib
import inspect
import random
import unittest

from fewhands.comparing import asks_no_more
from fewhands.errors import Clash, NotSameKinds, TooMany
from fewhands.staffs import Staff
from fewhands.winning import always, answer, attack, is_answer, is_attack, is_strategy, strategy
from persons import all_numbers, small_book

# The names of the interface by their modules, with the names of the arguments.
INTERFACE = {
    "limits": "KINDS ROLES TASKS REMEMBERED WIDTH MANY NAMES LEVELS STANDS CAP",
    "errors": """InvalidName(value) InvalidStaff(value) InvalidTask(field) InvalidKinds(value) InvalidTasks(value) InvalidPlan(value)
        InvalidText(index) InvalidWages(value) InvalidPrices(value) InvalidLog(value) Clash(name) NotSameKinds() CommandError(value) InUse(name)
        UnknownKind(value) UnknownTask(value) UnknownStand(value) UnknownMove(value) UnknownCase(value) UnknownPerson(value) OutOfRange(value)
        TooMany(limit) TooFew(kind) NotNow(value) WrongNumber(number) Twice(person) LacksRole(person) DidLast(person,name)
        DidNotLast(person,name) Hopeless(case) InTrial()""",
    "staffs": "Staff(**numbers)",
    "tasks": "Task(role=None,*,many=1,other=(),same=(),takes=(),forgets=()) Vote(many,role=None,*,other=()) HandOn(*names,role=None) Reopen(*names,role=None)",
    "plans": "normal(plan) is_plan(value) names_in(plan) turn(plan) choices(plan) places(plan) plan_text(plan) read_plan(text)",
    "books": "Book(kinds,tasks,plan)",
    "stands": "first_stand(book) moves(book,stand) after(book,stand,move) needs(book,stand,move) stands(book)",
    "winning": """always(book,staff) strategy(book,staff) attack(book,staff) is_strategy(book,staff,value) is_attack(book,staff,value) least_staffs(book)
        greatest_losers(book) answer(book) is_answer(book,value) fewest(book) cheapest(book,wages)""",
    "bands": """can(book,staff) band_run(book,staff) is_run(book,staff,value) barrier(book,staff) is_barrier(book,staff,value) least_bands(book)
        smallest(book) runs(book,staff)""",
    "missing": "spared(book,staff) critical(book,staff) outlasted(book,staff) is_safe(book,staff) stuck_run(book,staff)",
    "comparing": "are_alike(one,other,*,together=False) asks_no_more(one,other,*,together=False) parting(one,other,*,together=False)",
    "guards": """conditions(book) with_choice(book,choice) needless(book) cheapest_guard(book,prices,hands,staff=None) guards(book,choice,hands,staff=None)
        bars(book,prices,hands,staff,cost) is_bars(book,prices,hands,staff,cost,value)""",
    "logs": "could_have(book,staff,log) least_for(book,log) fewest_for(book,log)",
    "offices": "Office(book,persons) GuardedOffice(book,persons) LoggedOffice(book,persons) GuardedLoggedOffice(book,persons)",
    "desks": "Desk(office) answers(office,lines)",
}

# The methods of classes, with the names of the arguments.
METHODS = {
    ("staffs", "Staff"): "of(numbers) numbers() fits_in(other) within(limits)",
    ("books", "Book"): "set_plan(plan) take(name) copied() text() read(text)",
    ("offices", "Office"): """start(case) stand(case) doers(case,name) choose(case,index) pick(case,index,*,place=None) do(case,task,*persons,place=None)
        join(person,kind) leave(person) undo(count=1) redo(count=1) trial() attempt(action) tried(action)""",
    ("offices", "GuardedOffice"): "helpful(case)",
    ("offices", "GuardedLoggedOffice"): "helpful(case)",
    ("desks", "Desk"): "run(line)",
}

PROPERTIES = {
    ("staffs", "Staff"): "kinds total", ("tasks", "Task"): "role many other same takes forgets",
    ("books", "Book"): "kinds remembered width plan names",
    ("offices", "Office"): "book persons staff cases running undoable redoable depth", ("offices", "LoggedOffice"): "log",
    ("offices", "GuardedLoggedOffice"): "log",
}


def told(function):
    """The arguments of a function as they are written above."""
    if isinstance(function, type) and not any("__init__" in vars(base) for base in function.__mro__ if base.__module__.startswith("fewhands")):
        return "()"
    return str(inspect.signature(function)).replace(" ", "").replace("self,", "").replace("(self)", "()")


class TestInterface(unittest.TestCase):
    def test_names_and_arguments(self):
        for name, listed in INTERFACE.items():
            module = importlib.import_module(f"fewhands.{name}")
            for entry in listed.split():
                what, mark, arguments = entry.partition("(")
                found = getattr(module, what)
                if mark:
                    self.assertEqual(told(found), mark + arguments, (name, what))
                    self.assertEqual(found.__module__, f"fewhands.{name}")

    def test_methods_stand_in_their_classes(self):
        for (name, owner), listed in METHODS.items():
            found = getattr(importlib.import_module(f"fewhands.{name}"), owner)
            for entry in listed.split():
                what, mark, arguments = entry.partition("(")
                self.assertIn(what, vars(found), owner)
                self.assertEqual(told(getattr(found, what)), mark + arguments, (owner, what))
        for (name, owner), listed in PROPERTIES.items():
            found = getattr(importlib.import_module(f"fewhands.{name}"), owner)
            for what in listed.split():
                self.assertIsInstance(vars(found)[what], property, (owner, what))

    def test_errors(self):
        module = importlib.import_module("fewhands.errors")
        bases = {ValueError: 14, LookupError: 7, OverflowError: 2, RuntimeError: 8}
        for entry in INTERFACE["errors"].split():
            what, _, arguments = entry.partition("(")
            fields = [field for field in arguments.strip(")").split(",") if field]
            found = getattr(module, what)
            self.assertIn(found.__base__, bases)
            bases[found.__base__] -= 1
            value = [[], {}, None][:len(fields)]
            for error in (found(*value), found(**dict(zip(fields, value)))):
                for field, kept in zip(fields, value):
                    self.assertIs(getattr(error, field), kept)
        self.assertEqual(set(bases.values()), {0})


class TestMainPromise(unittest.TestCase):
    def test_exactly_one_of_two_things(self):
        """For each drawn book and staff a strategy or an attack, both taken by their checks, and an answer for all."""
        made = random.Random(160)
        for _ in range(150):
            book = small_book(made, ("p", "q", "o"))
            self.assertTrue(is_answer(book, answer(book)))
            for numbers in made.sample(all_numbers(book.kinds, 3), 4):
                staff = Staff.of(numbers)
                plan, ranks = strategy(book, staff), attack(book, staff)
                self.assertEqual(plan is None, ranks is not None)
                self.assertEqual(is_strategy(book, staff, plan), always(book, staff))
                self.assertNotEqual(is_attack(book, staff, ranks), always(book, staff))
                self.assertFalse(is_attack(book, staff, plan))
                self.assertFalse(is_strategy(book, staff, ranks))

    def test_books_that_are_joined(self):
        """Who can do one of two plans can choose it, and who can do both, one after the other, can do each of them alone."""
        made = random.Random(161)
        tried = 0
        while tried < 60:
            one, other = small_book(made), small_book(made)
            try:
                either, both = one | other, one + other
            except (NotSameKinds, Clash, TooMany):
                continue
            tried += 1
            for together in (False, True):
                for book in (one, other):
                    self.assertTrue(asks_no_more(either, book, together=together), (one.text(), other.text()))
                self.assertTrue(asks_no_more(one, both, together=together), (one.text(), other.text()))


if __name__ == "__main__":
    unittest.main()
