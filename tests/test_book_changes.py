import itertools
import unittest

from fewhands.books import Book
from fewhands.errors import Clash, InUse, InvalidPlan, InvalidTasks, NotSameKinds, TooMany, UnknownTask
from fewhands.stands import after, first_stand, moves, needs, stands
from fewhands.tasks import Task, Vote
from samples import DONE, check_book, full_book, kinds_of, state, tasks_of
from values import many_kinds

KINDS = {"p": []}
FIELDS = {TooMany: "limit", InUse: "name", Clash: "name"}


class ChangeCase(unittest.TestCase):
    def assert_refused(self, error, value, book, change):
        """The change raises the error with this very value, and changes nothing."""
        before = state(book)
        with self.assertRaises(error) as caught:
            change(book)
        told = getattr(caught.exception, FIELDS.get(error, "value"))
        if isinstance(value, (int, str)):
            self.assertEqual(told, value)
        else:
            self.assertIs(told, value)
        self.assertEqual(state(book), before)


def put(name, task):
    def change(book):
        book[name] = task
    return change


def join_in(tasks):
    def change(book):
        book |= tasks
    return change


def plan_by_property(plan):
    def change(book):
        book.plan = plan
    return change


def plan_by_method(plan):
    def change(book):
        book.set_plan(plan)
    return change


class TestSetItem(ChangeCase):
    def test_adds(self):
        book = check_book()
        book["audit"] = Vote(2)
        self.assertEqual(book.names, ("audit", "check", "enter"))
        self.assertEqual(book["audit"], Task(many=2))
        self.assertEqual(len(book), 3)

    def test_replaces(self):
        book = check_book()
        task = Task(many=2)
        book["check"] = task
        self.assertIs(book["check"], task)
        self.assertEqual((book.names, book.remembered, book.width), (("check", "enter"), (), 0))
        book = full_book()
        book["a"] = Task()
        self.assertEqual(book.width, 4)

    def test_wrong_names(self):
        for value in many_kinds() + ["A", "", "abcdefghi", "a1"]:
            if value not in ("p", "self"):
                self.assert_refused(InvalidTasks, value, check_book(), put(value, Task()))
                self.assert_refused(InvalidTasks, value, check_book(), put(value, None))

    def test_wrong_tasks(self):
        for value in many_kinds() + [Task]:
            if not isinstance(value, Task):
                self.assert_refused(InvalidTasks, value, check_book(), put("audit", value))
                self.assert_refused(InvalidTasks, value, full_book(), put("abcde", value))

    def test_limits(self):
        self.assert_refused(TooMany, 8, full_book(), put("i", Task(many=3, other=["x", "y", "z"])))
        self.assert_refused(TooMany, 3, full_book(), put("f", Task(many=3, other=["x"], takes=["a"])))
        self.assert_refused(TooMany, 5, full_book(), put("f", Task(many=3, takes=["a"])))
        self.assert_refused(TooMany, 5, full_book(), put("b", Task(many=2, other=["a"])))
        book = full_book()
        book["f"] = Task(many=3, other=["a", "b", "d"])
        self.assertEqual(book.width, 5)


class TestTake(ChangeCase):
    def test_removes(self):
        book = Book(KINDS, {"a": Task(), "b": Task(other=["c"]), "c": Task()}, "a")
        self.assertIsNone(book.take("b"))
        self.assertEqual((book.names, book.remembered, book.width), (("a", "c"), (), 0))
        book.take(name="c")
        self.assertEqual(book.names, ("a",))

    def test_a_name_that_stays_remembered(self):
        book = Book(KINDS, {"a": Task(other=["b"]), "b": Task(many=2)}, "a")
        book.take("b")
        self.assertEqual((book.names, book.remembered, book.width), (("a",), ("b",), 0))

    def test_unknown_tasks(self):
        for value in many_kinds() + ["audit", "", ["enter"], ("enter",)]:
            self.assert_refused(UnknownTask, value, check_book(), lambda book, at=value: book.take(at))

    def test_tasks_in_the_plan(self):
        for name in ("enter", "check"):
            self.assert_refused(InUse, name, check_book(), lambda book, at=name: book.take(at))
        book = Book(KINDS, tasks_of("then", "any"), ("then", ("any", "then", DONE)))
        self.assert_refused(InUse, "then", book, lambda changed: changed.take("then"))
        book.take("any")


class TestPlan(ChangeCase):
    def test_set(self):
        for change in (plan_by_property, plan_by_method):
            book = check_book()
            change(("then", ("then", "check"), "check", DONE))(book)
            self.assertEqual(book.plan, ("then", "check", "check"))
            self.assertEqual(first_stand(book), (("then", "check", "check"), ()))
        self.assertIsNone(book.set_plan(plan=DONE))
        self.assertEqual(book.plan, DONE)

    def test_refused(self):
        part = ["enter"]
        deep = ("any", ("any", ("any", ("any", ("any", "no", "na")))))
        for change in (plan_by_property, plan_by_method):
            for value in many_kinds():
                if value not in ("p", "self"):
                    self.assert_refused(InvalidPlan, value, check_book(), change(value))
            self.assert_refused(InvalidPlan, part, check_book(), change(("then",) + ("no",) * 17 + (deep, part)))
            self.assert_refused(TooMany, 16, check_book(), change(("then",) + ("no",) * 17 + (deep,)))
            self.assert_refused(TooMany, 5, check_book(), change(deep[:1] + (deep,)))
            self.assert_refused(TooMany, 5, check_book(), change(("any", deep)))
            self.assert_refused(UnknownTask, "na", check_book(), change(deep))
            self.assert_refused(UnknownTask, "p", check_book(), change("p"))


class TestJoinIn(ChangeCase):
    def test_the_same_object(self):
        book = kept = check_book()
        book |= {"audit": Vote(2), "check": Task()}
        self.assertIs(book, kept)
        self.assertEqual(book.names, ("audit", "check", "enter"))
        self.assertEqual((book["check"], book.remembered), (Task(), ()))
        book |= {}
        self.assertIs(book, kept)
        self.assertEqual(len(book), 3)

    def test_several_at_once(self):
        book = Book(KINDS, {"a": Task(many=3, other=["a"]), "b": Task()}, "a")
        book |= {"b": Task(many=3, other=["b"]), "a": Task()}
        self.assertEqual((book.remembered, book.width), (("b",), 3))

    def test_the_dict_is_changed_afterwards(self):
        book, tasks = check_book(), {"audit": Task()}
        book |= tasks
        tasks["more"] = Task()
        tasks["audit"] = Vote(3)
        self.assertEqual((book.names, book["audit"]), (("audit", "check", "enter"), Task()))
        self.assertEqual(list(tasks), ["audit", "more"])

    def test_wrong_values(self):
        for value in many_kinds() + [
            {"A": Task()}, {"": Task()}, {1: Task()}, {"a": None}, {"a": Task(), "b": 1}, [("a", Task())], Task(), check_book(),
            {**tasks_of(*"abcdefghi"), "I": Task()}, {**tasks_of(*"abcdefghi"), "i": None},
        ]:
            if value != {}:
                self.assert_refused(InvalidTasks, value, check_book(), join_in(value))

    def test_limits(self):
        self.assert_refused(TooMany, 8, full_book(), join_in({"i": Task(many=3, other=["x"])}))
        self.assert_refused(TooMany, 8, check_book(), join_in(tasks_of(*"abcdefg")))
        self.assert_refused(TooMany, 8, check_book(), join_in(tasks_of(*"abcdefghi")))
        self.assert_refused(TooMany, 3, full_book(), join_in({"f": Task(many=3, takes=["a"], other=["x"]), "a": Task()}))
        self.assert_refused(TooMany, 5, full_book(), join_in({"f": Task(many=3, takes=["a"]), "g": Task()}))
        self.assert_refused(TooMany, 5, full_book(), join_in({"f": Task(many=3, takes=["d", "a", "b"])}))
        book = full_book()
        book |= {"a": Task(), "f": Task(many=2, takes=["b"])}
        self.assertEqual(book.width, 5)


class TestCopies(ChangeCase):
    def test_copies_made_before_stay(self):
        changes = (put("audit", Vote(2)), put("check", Task()), plan_by_property("check"), plan_by_method(DONE),
                   join_in({"enter": Vote(3)}), lambda book: (book.set_plan("enter"), book.take("check")))
        for change in changes:
            book = check_book()
            copy = book.copied()
            before = state(copy), stands(copy)
            change(book)
            self.assertEqual((state(copy), stands(copy)), before)
            self.assertNotEqual(state(book), before[0])
            self.assertIs(book == copy, False)

    def test_changes_of_the_copy(self):
        book = check_book()
        copy = book.copied()
        copy["audit"] = Task()
        copy.plan = "audit"
        copy.take("check")
        self.assertEqual(state(book), state(check_book()))

    def test_stands_after_each_change(self):
        """What the stands were before a change does not count any more."""
        book = check_book()
        stand = ("check", (("p", ("enter",)),))
        self.assertEqual(moves(book, stand), [("do", 0, (("p", ()),))])
        self.assertEqual(len(stands(book)), 4)
        book["check"] = Task(same=["enter"])
        self.assertEqual(moves(book, stand), [("do", 0, (("p", ("enter",)),))])
        self.assertEqual(needs(book, stand, ("do", 0, (("p", ("enter",)),))).total, 1)
        book |= {"check": Task(other=["enter"], takes=["enter"])}
        self.assertEqual(after(book, stand, ("do", 0, (("p", ()),))), (DONE, (("p", ("enter",)),)))
        book.plan = ("again", "check")
        self.assertEqual(moves(book, first_stand(book)), [("choose", 0), ("choose", 1)])
        self.assertEqual(moves(book, (("then", "check", ("again", "check")), ())), [("do", 0, (("p", ()),))])
        book.take("enter")
        self.assertEqual(len(stands(book)), 6)
        book.set_plan("check")
        self.assertEqual(stands(book), [("check", ()), (DONE, (("p", ("enter",)),))])


class TestJoined(ChangeCase):
    def assert_not_joined(self, error, value, one, other):
        for join in (lambda: one + other, lambda: one | other):
            before = state(one), state(other)
            with self.assertRaises(error) as caught:
                join()
            if error is not NotSameKinds:
                self.assertEqual(getattr(caught.exception, FIELDS.get(error, "value")), value)
            self.assertEqual((state(one), state(other)), before)

    def test_plans(self):
        one = Book(KINDS, tasks_of("a", "b"), ("then", "a", "b"))
        other = Book(KINDS, tasks_of("c"), ("either", "c", DONE))
        self.assertEqual((one + other).plan, ("then", "a", "b", ("either", "c", DONE)))
        self.assertEqual((other + one).plan, ("then", ("either", "c", DONE), "a", "b"))
        self.assertEqual((one | other).plan, ("any", ("then", "a", "b"), ("either", "c", DONE)))
        self.assertEqual((other | one).plan, ("any", ("either", "c", DONE), ("then", "a", "b")))
        empty = Book(KINDS, {}, DONE)
        self.assertEqual((one + empty).plan, ("then", "a", "b"))
        self.assertEqual((empty + empty).plan, DONE)
        self.assertEqual((empty | empty).plan, ("any", DONE, DONE))

    def test_tasks(self):
        one = Book({"p": ["r"]}, {"a": Task(), "c": Vote(2)}, "a")
        other = Book({"p": ("r",)}, {"b": Task("r"), "c": Task(many=2)}, "b")
        for made in (one + other, one | other):
            self.assertIs(made.__class__, Book)
            self.assertEqual(made.kinds, {"p": ("r",)})
            self.assertEqual(made.names, ("a", "b", "c"))
            self.assertEqual([made[name] for name in made.names], [Task(), Task("r"), Task(many=2)])

    def test_with_itself(self):
        book = check_book()
        self.assertEqual((book + book).names, book.names)
        self.assertEqual((book | book).plan, ("any", book.plan, book.plan))

    def test_both_stay_as_they_are(self):
        one, other = check_book(), Book(KINDS, tasks_of("audit"), "audit")
        for made in (one + other, one | other):
            self.assertIsNot(made, one)
            made.plan = DONE
            made.take("enter")
            made["more"] = Task()
        self.assertEqual(state(one), state(check_book()))
        self.assertEqual(state(other), state(Book(KINDS, tasks_of("audit"), "audit")))

    def test_plus_in_place_makes_a_new_book(self):
        book = kept = check_book()
        book += check_book()
        self.assertIsNot(book, kept)
        self.assertEqual(state(kept), state(check_book()))

    def test_other_kinds(self):
        one = Book({"p": ["r"]}, {"a": Task()}, "a")
        for kinds in ({"p": []}, {"p": ["s"]}, {"p": ["r", "s"]}, {"q": ["r"]}, {"p": ["r"], "q": []}):
            other = Book(kinds, {"a": Vote(2)}, "a")
            self.assert_not_joined(NotSameKinds, None, one, other)
            self.assert_not_joined(NotSameKinds, None, other, one)
        with self.assertRaises(NotSameKinds):
            Book(kinds_of("a"), {}, DONE) | Book(kinds_of("b"), {}, DONE)

    def test_clashes(self):
        one = Book(KINDS, {"a": Task(), "b": Task(), "c": Task(), "e": Task()}, "a")
        other = Book(KINDS, {"f": Task(), "c": Task("r"), "b": Vote(2), "a": Vote(1)}, "a")
        self.assert_not_joined(Clash, "b", one, other)
        self.assert_not_joined(Clash, "b", other, one)
        wide = Book(KINDS, {**tasks_of(*"efghijk"), "c": Vote(2)}, ("then",) + ("c",) * 16)
        self.assert_not_joined(Clash, "c", one, wide)

    def test_limits_in_their_order(self):
        names = {"a": Task(many=3), "b": Task(many=3), "c": Task(), "d": Task()}
        first = {**names, "e": Task(other=["a", "x"])}
        second = {**names, "f": Task(other=["b", "y"])}
        deep = ("any", ("any", ("any", ("any", ("any", "a")))))
        self.assert_not_joined(TooMany, 8, Book(KINDS, {**first, **tasks_of("l", "m")}, ("then",) + ("a",) * 9),
                               Book(KINDS, {**second, **tasks_of("n", "o")}, ("then",) + ("a",) * 9))
        self.assert_not_joined(TooMany, 16, Book(KINDS, first, ("any", deep[1]) + ("a",) * 8),
                               Book(KINDS, second, ("then",) + ("a",) * 8))
        self.assert_not_joined(TooMany, 5, Book(KINDS, first, deep), Book(KINDS, second, deep))
        self.assert_not_joined(TooMany, 3, Book(KINDS, first, "a"), Book(KINDS, second, "a"))
        self.assert_not_joined(TooMany, 5, Book(KINDS, {**names, "e": Task(other=["a"])}, "a"),
                               Book(KINDS, {**names, "f": Task(other=["b"])}, "a"))

    def test_at_the_limits(self):
        one = Book(KINDS, {**tasks_of(*"abcd"), "e": Task(other=["x"])}, ("then",) + ("a",) * 8)
        other = Book(KINDS, {**tasks_of(*"bfg"), "h": Task(many=3, other=["h", "y"])}, ("then",) + ("b",) * 8)
        made = one + other
        self.assertEqual((len(made), made.remembered, made.width), (8, ("h", "x", "y"), 3))
        flat = ("then", ("any", ("any", ("any", ("any", "a")))), "a")
        self.assertEqual((Book(KINDS, tasks_of("a"), flat) + Book(KINDS, tasks_of("a"), flat)).plan, flat + flat[1:])
        self.assert_or_too_deep(Book(KINDS, tasks_of("a"), flat))

    def assert_or_too_deep(self, book):
        with self.assertRaises(TooMany) as caught:
            book | book
        self.assertEqual(caught.exception.limit, 5)

    def test_equal_tasks_of_other_classes(self):
        one, other = Book(KINDS, {"a": Vote(1)}, "a"), Book(KINDS, {"a": Task()}, "a")
        for left, right in itertools.permutations((one, other)):
            self.assertEqual((left + right).names, ("a",))
