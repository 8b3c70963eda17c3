import random
import unittest

from fewhands import comparing as module
from fewhands.bands import can, least_bands
from fewhands.books import Book
from fewhands.comparing import are_alike, asks_no_more, parting
from fewhands.errors import NotSameKinds, TooMany
from fewhands.staffs import Staff
from fewhands.tasks import Task, Vote
from fewhands.winning import always, least_staffs
from persons import all_numbers, least_of, small_book
from samples import DONE, check_book, kinds_of, state, tasks_of
from test_stands import book_with


def book_of(plan, tasks=None, **kinds):
    return Book(kinds or {"p": [], "q": []}, tasks or {"a": Task(), "b": Vote(2), "c": Task("r"), "n": Task(same=["n"])}, plan)


class TestComparing(unittest.TestCase):
    def assert_compared(self, one, other, alike, no_more, no_less, apart, together=False):
        self.assertIs(are_alike(one, other, together=together), alike)
        self.assertIs(are_alike(other, one, together=together), alike)
        self.assertIs(asks_no_more(one, other, together=together), no_more)
        self.assertIs(asks_no_more(other, one, together=together), no_less)
        for pair in ((one, other), (other, one)):
            found = parting(*pair, together=together)
            self.assertEqual(None if found is None else found.numbers(), apart)

    def test_same_least_staffs_and_other_tasks(self):
        one = check_book()
        other = Book({"p": []}, {"v": Vote(2)}, ("then", "v", ("again", "v")))
        self.assert_compared(one, other, True, True, True, None)
        self.assert_compared(one, one, True, True, True, None)
        self.assert_compared(one, one.copied(), True, True, True, None, True)

    def test_together(self):
        one = check_book()
        other = Book({"p": []}, {"v": Vote(2)}, ("then", "v", ("again", "v")))
        self.assert_compared(one, other, False, True, False, {"p": 1}, True)
        self.assertTrue(are_alike(one, other, together=False))
        for first, second in ((one, other), (other, one)):
            self.assertTrue(are_alike(first, second))
            self.assertTrue(asks_no_more(first, second))
            self.assertIsNone(parting(first, second))

    def test_one_above_the_other(self):
        one, other = check_book(), check_book()
        other["enter"] = Vote(2)
        self.assert_compared(one, other, False, True, False, {"p": 2})
        other.plan = DONE
        self.assertEqual(parting(one, other), Staff())
        self.assert_compared(one, other, False, False, True, {})

    def test_neither(self):
        tasks = {"a": Task("r"), "b": Task("s")}
        kinds = {"p": ["r"], "q": ["s"]}
        one, other = book_of("a", tasks, **kinds), book_of("b", tasks, **kinds)
        for first, second in ((one, other), (other, one)):
            self.assertFalse(are_alike(first, second))
            self.assertFalse(asks_no_more(first, second))
            self.assertEqual(parting(first, second).total, 1)

    def test_nobody(self):
        never = book_of("n")
        self.assert_compared(never, book_of(("then", "n", "a")), True, True, True, None)
        self.assertIs(asks_no_more(never, book_of("a")), False)
        self.assertIs(asks_no_more(book_of("a"), never), True)
        self.assertEqual(parting(never, book_of("a")).total, 1)
        self.assertEqual(parting(never, book_of(DONE)), Staff())

    def test_roles_may_differ(self):
        one = Book({"p": ["r"], "q": []}, {"a": Task("r")}, "a")
        other = Book({"q": ["r"], "p": ["s"]}, {"a": Task("r")}, "a")
        self.assert_compared(one, one.copied(), True, True, True, None)
        self.assertIs(are_alike(one, other), False)
        self.assertEqual(parting(one, other).total, 1)
        other["a"] = Task("s")
        self.assert_compared(one, other, True, True, True, None)

    def test_the_fewest_persons(self):
        """The difference begins only where both kinds are there."""
        tasks = {"a": Vote(3), "b": Task("r", other=["a"])}
        kinds = {"p": ["r"], "q": []}
        one, other = book_of("a", tasks, **kinds), book_of(("then", "a", "b"), tasks, **kinds)
        found = parting(one, other)
        self.assertEqual(found.total, 3)
        self.assertNotEqual(always(one, found), always(other, found))
        one.plan = ("then", "a", ("any", "b", "a"))
        self.assertEqual(parting(one, other).total, 3)

    def test_staffs_one_by_one(self):
        made = random.Random(120)
        seen = []
        while len(seen) < 150:
            one, other = small_book(made), small_book(made)
            if list(one.kinds) != list(other.kinds):
                continue
            for together, check, least in ((False, always, least_staffs), (True, can, least_bands)):
                staffs = [Staff.of(numbers) for numbers in all_numbers(one.kinds, 4)]
                if all(kind <= 4 for book in (one, other) for staff in least(book) for kind in staff.numbers().values()):
                    first, second = [[check(book, staff) for staff in staffs] for book in (one, other)]
                    alike = are_alike(one, other, together=together)
                    seen.append(alike)
                    self.assertIs(alike, first == second)
                    self.assertIs(asks_no_more(one, other, together=together), all(a or not b for a, b in zip(first, second)))
                    totals = [staff.total for staff, a, b in zip(staffs, first, second) if a != b]
                    found = parting(one, other, together=together)
                    self.assertEqual(None if found is None else found.total, min(totals, default=None))
                    if found is not None:
                        self.assertNotEqual(check(one, found), check(other, found))
        self.assertGreater(min(seen.count(True), seen.count(False)), 20)


class TestErrors(unittest.TestCase):
    def calls(self, one, other):
        for call in (are_alike, asks_no_more, parting):
            for together in (False, True):
                yield lambda: call(one, other, together=together)
                yield lambda: call(other, one, together=together)

    def test_other_kinds(self):
        one = Book(kinds_of("p", "q"), tasks_of("a"), "a")
        for names in (("p",), ("q",), ("p", "r"), ("p", "q", "r"), ("o", "p", "q")):
            other = Book(kinds_of(*names), tasks_of("a"), "a")
            before = state(one), state(other)
            for call in self.calls(one, other):
                with self.assertRaises(NotSameKinds):
                    call()
            self.assertEqual((state(one), state(other)), before)
        for call in self.calls(one, Book(kinds_of("q", "p"), {}, DONE)):
            call()

    def test_too_many_stands_ahead_of_other_kinds(self):
        for other in (check_book(), Book(kinds_of("a", "b", "c"), {}, DONE), book_with(2002)):
            for call in self.calls(book_with(2001), other):
                with self.assertRaises(TooMany) as caught:
                    call()
                self.assertEqual(caught.exception.limit, 2000)

    def test_together_by_name_alone(self):
        for call in (are_alike, asks_no_more, parting):
            with self.assertRaises(TypeError):
                call(check_book(), check_book(), True)
            call(other=check_book(), one=check_book())

    def test_two_thousand_stands(self):
        one, other = book_with(2000), book_with(1999)
        self.assertTrue(are_alike(one, other))
        self.assertTrue(are_alike(one, other, together=True))
        self.assertEqual(parting(one, Book(kinds_of("a", "b", "c"), {}, DONE)), Staff())

    def test_functions_stand_in_their_file(self):
        for name in "are_alike asks_no_more parting".split():
            self.assertEqual(getattr(module, name).__module__, "fewhands.comparing")

    def test_books_that_are_changed(self):
        one, other = check_book(), check_book()
        self.assertTrue(are_alike(one, other))
        one["check"] = Vote(3)
        self.assertFalse(are_alike(one, other))
        self.assertEqual(parting(one, other), Staff(p=2))
        other["check"] = Vote(3)
        self.assertTrue(are_alike(one, other))


if __name__ == "__main__":
    unittest.main()
