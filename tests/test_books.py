import random
import unittest

import reference
from fewhands.books import Book
from fewhands.errors import InvalidKinds, InvalidPlan, InvalidTask, InvalidTasks, TooMany, UnknownTask
from fewhands.tasks import HandOn, Reopen, Task, Vote
from samples import DONE, check_book, full_book, full_tasks, kinds_of, state, tasks_of
from values import many_kinds

KINDS = {"p": []}


def chain(many):
    """A plan with so many levels."""
    plan = "a"
    for _ in range(many):
        plan = ("any", plan)
    return plan


class BookCase(unittest.TestCase):
    def assert_raises(self, error, value, function, *args, **named):
        with self.assertRaises(error, msg=(args, named)) as caught:
            function(*args, **named)
        told = caught.exception.limit if error is TooMany else caught.exception.value
        if error in (TooMany, UnknownTask) and isinstance(value, (int, str)):
            self.assertEqual(told, value)
        else:
            self.assertIs(told, value)


class TestKinds(BookCase):
    def assert_kinds(self, kinds, shown):
        book = Book(kinds, {}, DONE)
        self.assertEqual(list(book.kinds.items()), shown)

    def test_right_kinds(self):
        for kinds, shown in (
            ({"p": []}, [("p", ())]), ({"p": ()}, [("p", ())]), ({"p": ["b", "a"]}, [("p", ("a", "b"))]),
            ({"p": ("d", "a", "c", "b")}, [("p", ("a", "b", "c", "d"))]),
            ({"z": [], "abcdefgh": ["p"]}, [("abcdefgh", ("p",)), ("z", ())]),
            ({"c": ["x"], "a": ["x"], "b": ["a", "b"]}, [("a", ("x",)), ("b", ("a", "b")), ("c", ("x",))]),
        ):
            self.assert_kinds(kinds, shown)

    def test_wrong_kinds(self):
        for kinds in (
            {}, kinds_of("a", "b", "c", "d"), kinds_of(*"abcdefghi"), {"P": []}, {"": []}, {"abcdefghi": []}, {"p1": []},
            {"\u00e4": []}, {1: []}, {None: []}, {b"p": []}, {("p",): []}, {"p": [], 1: []}, {"p": [], True: []},
            {"p": None}, {"p": "ab"}, {"p": "a"}, {"p": {"a": 1}}, {"p": {}}, {"p": b""}, {"p": 0}, {"p": Task()},
            {"p": ["a", "a"]}, {"p": ("a", "b", "a")}, {"p": list("abcde")}, {"p": ["A"]}, {"p": [""]}, {"p": ["abcdefghi"]},
            {"p": [1]}, {"p": [None]}, {"p": [["a"]]}, {"p": [b"a"]}, {"p": [], "q": ["a", 1]},
        ):
            self.assert_raises(InvalidKinds, kinds, Book, kinds, {}, DONE)

    def test_values_of_any_kind(self):
        for value in many_kinds():
            self.assert_raises(InvalidKinds, value, Book, value, {}, DONE)
            kinds = {"p": [], "q": value}
            if value not in ((), [], ("p",), ["p"]):
                self.assert_raises(InvalidKinds, kinds, Book, kinds, {}, DONE)
            if value not in ("p", "self"):
                kinds = {"p": ["a", value]}
                self.assert_raises(InvalidKinds, kinds, Book, kinds, {}, DONE)

    def test_dicts_that_are_changed_afterwards(self):
        roles = ["b", "a"]
        kinds = {"p": roles}
        book = Book(kinds, {}, DONE)
        self.assertEqual(kinds, {"p": ["b", "a"]})
        roles.append("c")
        kinds["q"] = []
        self.assertEqual(book.kinds, {"p": ("a", "b")})
        book.kinds["q"] = ()
        book.kinds.clear()
        self.assertEqual(book.kinds, {"p": ("a", "b")})


class TestTasks(BookCase):
    def test_right_tasks(self):
        tasks = {"c": Vote(2), "a": Task(), "b": HandOn("a"), "then": Reopen("a")}
        book = Book(KINDS, tasks, DONE)
        self.assertEqual(book.names, ("a", "b", "c", "then"))
        self.assertEqual([book[name] for name in book.names], [tasks[name] for name in book.names])
        self.assertEqual(Book(KINDS, {}, DONE).names, ())

    def test_wrong_tasks(self):
        for tasks in (
            {"A": Task()}, {"": Task()}, {"abcdefghi": Task()}, {1: Task()}, {None: Task()}, {("a",): Task()},
            {"a": None}, {"a": "b"}, {"a": Task}, {"a": {}}, {"a": [Task()]}, {"a": (Task(),)}, {"a": Task(), "b": 1},
            {"a": Task(), 1: Task()}, {**tasks_of(*"abcdefgh"), "i": None}, {**tasks_of(*"abcdefgh"), "I": Task()},
        ):
            self.assert_raises(InvalidTasks, tasks, Book, KINDS, tasks, DONE)

    def test_values_of_any_kind(self):
        for value in many_kinds():
            if value != {}:
                self.assert_raises(InvalidTasks, value, Book, KINDS, value, DONE)
            if not isinstance(value, Task):
                tasks = {"a": Task(), "b": value}
                self.assert_raises(InvalidTasks, tasks, Book, KINDS, tasks, DONE)

    def test_number_of_tasks(self):
        self.assertEqual(len(Book(KINDS, tasks_of(*"abcdefgh"), DONE)), 8)
        self.assert_raises(TooMany, 8, Book, KINDS, tasks_of(*"abcdefghi"), DONE)

    def test_dicts_that_are_changed_afterwards(self):
        tasks = {"b": Task(), "a": Task()}
        book = Book(KINDS, tasks, "a")
        self.assertEqual(list(tasks), ["b", "a"])
        tasks["c"] = Task()
        tasks["a"] = Task(many=2)
        del tasks["b"]
        self.assertEqual(book.names, ("a", "b"))
        self.assertEqual(book["a"], Task())


class TestPlan(BookCase):
    def test_normal_form(self):
        book = Book(KINDS, tasks_of("a", "b"), ("then", ("then", "a"), ("beside", DONE, "b"), DONE))
        self.assertEqual(book.plan, ("then", "a", "b"))
        self.assertEqual(Book(KINDS, tasks_of("a"), "a").plan, "a")
        self.assertEqual(Book(KINDS, {}, ("then", DONE)).plan, DONE)

    def test_values_of_any_kind(self):
        tasks = tasks_of("p", "self")
        for value in many_kinds():
            if value not in ("p", "self"):
                self.assert_raises(InvalidPlan, value, Book, KINDS, tasks, value)
                self.assert_raises(InvalidPlan, value, Book, KINDS, tasks, ("then", "p", ("any", value, 1)))
        inner = ("beside", "p", "p")
        self.assert_raises(InvalidPlan, inner, Book, KINDS, tasks, ("beside", ("any", inner), "p"))

    def test_number_of_names(self):
        tasks = tasks_of("a", "b")
        for plan in (("then",) + ("a",) * 16, ("either", ("then",) + ("a",) * 8, ("then",) + ("b",) * 8)):
            self.assertEqual(Book(KINDS, tasks, plan).plan, plan)
        for plan in (("then",) + ("a",) * 17, ("either", ("then",) + ("a",) * 8, ("then",) + ("b",) * 9),
                     ("then",) + ("x",) * 40):
            self.assert_raises(TooMany, 16, Book, KINDS, tasks, plan)

    def test_levels(self):
        tasks = tasks_of("a")
        deepest = ("any", ("any", ("any", ("any", DONE))))
        for plan in ("a", chain(5), deepest, ("then", "a", chain(4)), ("either", "a", chain(4), DONE)):
            self.assertEqual(Book(KINDS, tasks, plan).plan, plan)
        for plan in (chain(6), ("any", deepest), ("then", "a", chain(5)), ("beside", "a", chain(5)), chain(20)):
            self.assert_raises(TooMany, 5, Book, KINDS, tasks, plan)

    def test_levels_are_counted_in_the_normal_form(self):
        tasks = tasks_of("a")
        for plan, form in (
            (("then", ("then", ("then", chain(5)))), chain(5)),
            (("beside", DONE, ("beside", "a", "a")[1]), "a"),
            (("beside", ("then", DONE), chain(5)), chain(5)),
            (("then", "a", ("then", "a", ("then", "a", ("then", "a", ("then", "a", ("then", "a")))))), ("then",) + ("a",) * 6),
            (("then", ("then", "a", chain(4)), "a"), ("then", "a", chain(4), "a")),
            (("any", ("then", ("beside", chain(4), DONE))), chain(5)),
        ):
            self.assertEqual(Book(KINDS, tasks, plan).plan, form)

    def test_names_that_are_no_tasks(self):
        for name, plan in (("b", "b"), ("b", ("then", "c", "a", "b")), ("then", ("then", "then", "z")), ("c", ("any", "d", "c"))):
            self.assert_raises(UnknownTask, name, Book, KINDS, tasks_of("a"), plan)


class TestMemory(BookCase):
    def test_remembered(self):
        for tasks, names in (
            ({}, ()), ({"a": Task()}, ()), ({"a": Task(takes=["b"], forgets=["c"])}, ()), ({"a": Task(other=["a"])}, ("a",)),
            ({"a": Task(other=["z", "b"])}, ("b", "z")), ({"a": Task(same=["z"]), "b": Task(other=["z", "c"])}, ("c", "z")),
        ):
            self.assertEqual(Book(KINDS, tasks, DONE).remembered, names)

    def test_number_of_remembered_names(self):
        for tasks in ({"a": Task(other=["x", "y", "z"])}, {"a": Task(other=["a"]), "b": Task(same=["b", "x"])}):
            self.assertEqual(len(Book(KINDS, tasks, DONE).remembered), 3)
        for tasks in ({"a": Task(other=["w", "x", "y", "z"])}, {"a": Task(other=["a", "x"]), "b": Task(same=["b", "y"])},
                      {name: Task(same=[name]) for name in "abcd"}):
            self.assert_raises(TooMany, 3, Book, KINDS, tasks, DONE)

    def test_width(self):
        for tasks, width in (
            ({}, 0), ({"a": Task(many=3)}, 0), ({"a": Task(other=["x"])}, 0), ({"a": Task(other=["a"])}, 1),
            ({"a": Task(many=3, other=["a"])}, 3), ({"a": Task(many=3), "b": Task(many=2, other=["a", "b"])}, 5),
            ({"a": Task(other=["x"]), "b": Task(many=2, takes=["x"])}, 2),
            ({"a": Task(other=["a"]), "b": Task(many=3, takes=["a"])}, 3),
            ({"a": Task(many=2, other=["a"]), "b": Task(takes=["a"])}, 2),
            ({"a": Task(other=["x", "y"]), "b": Task(many=2, takes=["x", "y"]), "c": Task(takes=["x"])}, 4),
            ({"a": Task(many=3, other=["a", "b"]), "b": Task(many=2)}, 5),
            ({"a": Task(many=3, takes=["b"], other=["x"], forgets=["x"])}, 0),
        ):
            self.assertEqual(Book(KINDS, tasks, DONE).width, width)

    def test_too_great_a_width(self):
        for tasks in (
            {"a": Task(many=3, other=["a", "b"]), "b": Task(many=3)},
            {"a": Task(many=2, other=["a", "b"]), "b": Task(many=3), "c": Task(many=3, takes=["a"])},
            {"a": Task(other=["x", "y", "a"]), "b": Task(many=3, takes=["x"]), "c": Task(many=2, takes=["y"])},
            {name: Task(many=2, same=[name]) for name in "abc"},
        ):
            self.assert_raises(TooMany, 5, Book, KINDS, tasks, DONE)

    def test_full_book(self):
        book = full_book()
        self.assertEqual((len(book), book.remembered, book.width), (8, ("a", "b", "d"), 5))


class TestOrder(BookCase):
    """Several things that are wrong at once: the first one is told."""

    def test_each_ahead_of_all_later_ones(self):
        wrong_kinds = {"p": None}
        wrong_tasks = {**{letter * 2: Task(many=3, other=["w", "x", "y", "z", "aa"]) for letter in "abcdefghi"}, "A": None}
        many_tasks = {letter * 2: Task(many=3, other=["w", "x", "y", "z", "aa"]) for letter in "abcdefghi"}
        memory = {letter * 2: Task(many=3, other=["w", "x", "y", "aa", "bb"]) for letter in "abcd"}
        wide = {letter * 2: Task(many=3, other=["aa", "bb"]) for letter in "abcd"}
        right = tasks_of("aa")
        part = ["a"]
        deep = ("then", ("any", ("any", ("any", ("any", ("any", ("any", "no")))))))
        steps = [
            (InvalidKinds, wrong_kinds, wrong_kinds, KINDS),
            (InvalidTasks, wrong_tasks, wrong_tasks, many_tasks),
            (TooMany, 8, many_tasks, memory),
            (InvalidPlan, part, ("then",) + ("no",) * 17 + (deep, part), ("then",) + ("no",) * 17 + (deep,)),
            (TooMany, 16, ("then",) + ("no",) * 17 + (deep,), ("then", deep)),
            (TooMany, 5, ("then", deep), ("then", "no", "na")),
            (UnknownTask, "na", ("then", "no", "na"), ("then", "aa")),
            (TooMany, 3, memory, wide),
            (TooMany, 5, wide, right),
        ]
        kinds, tasks, plan = wrong_kinds, wrong_tasks, ("then",) + ("no",) * 17 + (deep, part)
        for error, value, wrong, better in steps:
            self.assert_raises(error, value, Book, kinds, tasks, plan)
            kinds = better if kinds is wrong else kinds
            tasks = better if tasks is wrong else tasks
            plan = better if plan == wrong else plan
        self.assertEqual(len(Book(kinds, tasks, plan)), 1)

    def test_arguments_by_name(self):
        book = Book(plan="a", tasks=tasks_of("a"), kinds={"p": ["r"]})
        self.assertEqual(book, Book({"p": ["r"]}, tasks_of("a"), "a"))


class TestReading(BookCase):
    def test_length_and_names(self):
        book = Book(KINDS, tasks_of("c", "a", "b"), "a")
        self.assertEqual((len(book), book.names), (3, ("a", "b", "c")))
        self.assertEqual(len(Book(KINDS, {}, DONE)), 0)

    def test_in(self):
        book = Book(KINDS, tasks_of("a", "p"), "a")
        self.assertIs("a" in book, True)
        self.assertIs("b" in book, False)
        for value in many_kinds():
            self.assertIs(value in book, isinstance(value, str) and value == "p")

    def test_task(self):
        task = Vote(2)
        book = Book(KINDS, {"a": task, "p": Task()}, "a")
        self.assertIs(book["a"], task)
        for value in many_kinds() + ["b", "A", ("a",), ["a"], {"a": 1}, 0, slice(0, 1)]:
            if not isinstance(value, str) or value != "p":
                self.assert_raises(UnknownTask, value, lambda at: book[at], value)

    def test_no_iterating(self):
        for book in (check_book(), Book(KINDS, {}, DONE)):
            for function in (iter, list, tuple, sorted, set, lambda at: [name for name in at]):
                with self.assertRaises(TypeError):
                    function(book)

    def test_properties_cannot_be_set(self):
        for name in ("kinds", "names", "remembered", "width"):
            with self.assertRaises(AttributeError):
                setattr(check_book(), name, ())


class TestEqual(BookCase):
    def assert_equal(self, one, other, equal=True):
        self.assertIs(one == other, equal)
        self.assertIs(other == one, equal)
        self.assertIs(one != other, not equal)

    def test_equal(self):
        kinds, tasks = {"p": ["a", "b"], "q": []}, {"a": Task(), "b": Vote(2, other=["a"])}
        book = Book(kinds, tasks, ("then", "a", "b"))
        for other in (
            book, book.copied(), Book({"q": (), "p": ("b", "a")}, tasks, ("then", "a", "b")),
            Book(kinds, {"b": Task(many=2, other=("a",)), "a": Task()}, ("then", "a", "b")),
            Book(kinds, tasks, ("then", ("then", "a"), ("beside", DONE, "b"), DONE)),
        ):
            self.assert_equal(book, other)
        self.assert_equal(full_book(), full_book())

    def test_unequal(self):
        kinds, tasks = {"p": ["a"], "q": []}, tasks_of("a", "b")
        book = Book(kinds, tasks, ("then", "a", "b"))
        for other in (
            Book({"p": ["a"]}, tasks, book.plan), Book({"p": ["b"], "q": []}, tasks, book.plan),
            Book({"p": [], "q": ["a"]}, tasks, book.plan), Book({"p": ["a"], "r": []}, tasks, book.plan),
            Book(kinds, tasks_of("a", "b", "c"), book.plan), Book(kinds, {**tasks, "a": Vote(2)}, book.plan),
            Book(kinds, tasks, ("then", "b", "a")), Book(kinds, tasks, ("any", "a", "b")), Book(kinds, tasks, "a"),
        ):
            self.assert_equal(book, other, False)

    def test_other_values(self):
        book = check_book()
        for value in many_kinds() + [book.text(), book.plan, book.kinds, (book.kinds, {}, book.plan)]:
            self.assert_equal(book, value, False)


class TestCopied(BookCase):
    def test_an_equal_new_book(self):
        for book in (check_book(), full_book(), Book(KINDS, {}, DONE)):
            copy = book.copied()
            self.assertIsNot(copy, book)
            self.assertEqual(state(copy), state(book))
            self.assertIs(copy.__class__, Book)

    def test_random_books(self):
        made = random.Random(40)
        for _ in range(200):
            book = reference.random_book(made)
            self.assertEqual(book.copied(), book)
            used = {name for task in (book[at] for at in book.names) for name in task.other + task.same}
            self.assertEqual(book.remembered, tuple(sorted(used)))
            self.assertLessEqual(book.width, 5)
            self.assertEqual(book.plan, reference.normal_form(book.plan))


class TestFromTheTask(BookCase):
    def test_methods_stand_in_the_class_itself(self):
        for name in ("__init__", "kinds", "remembered", "width", "plan", "set_plan", "names", "__len__", "__contains__",
                     "__getitem__", "__setitem__", "take", "copied", "__eq__", "__add__", "__or__", "__ior__", "text", "read"):
            self.assertIn(name, vars(Book))

    def test_wrong_tasks_are_told_by_the_task(self):
        with self.assertRaises(InvalidTask):
            Book(KINDS, {"a": Task("")}, "a")
        self.assertEqual(len(full_tasks()), 8)
