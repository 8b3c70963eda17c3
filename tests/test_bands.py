import itertools
import random
import unittest

import reference
from fewhands import bands as module
from fewhands.bands import band_run, barrier, can, is_barrier, is_run, least_bands, runs, smallest
from fewhands.books import Book
from fewhands.errors import TooMany, UnknownKind
from fewhands.stands import stands
from fewhands.staffs import Staff
from fewhands.tasks import Task, Vote
from persons import StandGame, all_numbers, can_make, end_of, is_right_barrier, least_of, small_book
from samples import DONE, check_book, kinds_of, tasks_of
from test_stands import book_with
from values import many_kinds

FREE = ("p", ())
BLOCK = ("p", ("enter",))
ENTER, CHECK = ("do", 0, (FREE,)), ("do", 0, (FREE,))
SHORT, LONG = (ENTER, ("choose", 1)), (ENTER, ("choose", 0), CHECK)
BRANCH = ("either", "check", DONE)
FIRST = (("then", "enter", BRANCH), ())


def taken(book, staff, many):
    """The first complete runs, at most so many."""
    return list(itertools.islice(runs(book, staff), many))


def all_runs(book, staff, most):
    """All complete runs with at most so many moves, in order, found by trying everything."""
    found, layer = [], [((), (book.plan, ()))]
    for _ in range(most + 1):
        found += [run for run, stand in layer if reference.turn_of(stand[0]) == "done"]
        layer = [(run + (move,), to) for run, stand in layer for move, to in reference.stand_moves(book, stand)
                 if can_make(staff, stand, move)]
    return found


class TestExample(unittest.TestCase):
    def test_the_example_of_the_document(self):
        check = check_book()
        shown = [smallest(check), band_run(check, Staff(p=1)), is_run(check, Staff(p=1), (("do", 0, (("p", ()),)), ("choose", 1)))]
        self.assertEqual(repr(shown), "[1, (('do', 0, (('p', ()),)), ('choose', 1)), True]")

    def test_the_whole_book(self):
        check = check_book()
        for many in (1, 2, 8, 9, 10 ** 30):
            self.assertIs(can(check, Staff(p=many)), True)
            self.assertEqual(band_run(check, Staff(p=many)), SHORT)
            self.assertIsNone(barrier(check, Staff(p=many)))
        self.assertIs(can(check, Staff()), False)
        self.assertIsNone(band_run(check, Staff()))
        self.assertEqual(barrier(check, Staff()), (FIRST,))
        self.assertEqual(list(runs(check, Staff(p=1))), [SHORT])
        self.assertEqual(list(runs(check, Staff(p=2))), [SHORT, LONG])
        self.assertEqual(list(runs(check, Staff())), [])
        self.assertEqual(least_bands(check), (Staff(p=1),))

    def test_arguments_by_name(self):
        check, staff = check_book(), Staff(p=2)
        self.assertTrue(can(staff=staff, book=check))
        self.assertTrue(is_run(value=band_run(staff=staff, book=check), staff=staff, book=check))
        self.assertTrue(is_barrier(value=barrier(staff=Staff(), book=check), staff=Staff(), book=check))
        self.assertEqual(least_bands(book=check), (Staff(p=1),))
        self.assertEqual(smallest(book=check), 1)
        self.assertEqual(list(runs(staff=staff, book=check)), [SHORT, LONG])

    def test_functions_stand_in_their_file(self):
        for name in "can band_run is_run barrier is_barrier least_bands smallest runs".split():
            self.assertEqual(getattr(module, name).__module__, "fewhands.bands")


class TestBands(unittest.TestCase):
    def least(self, tasks, plan, **kinds):
        return [staff.numbers() for staff in least_bands(Book(kinds or {"p": []}, tasks, plan))]

    def test_the_staff_makes_the_choices_of_the_world(self):
        tasks = {"a": Task(), "b": Vote(2), "c": Vote(3)}
        self.assertEqual(self.least(tasks, DONE), [{}])
        self.assertEqual(self.least(tasks, ("either", "c", "b", "a")), [{"p": 1}])
        self.assertEqual(self.least(tasks, ("again", "b")), [{}])
        self.assertEqual(self.least(tasks, ("then", "b", ("again", "c"))), [{"p": 2}])
        self.assertEqual(self.least(tasks, ("beside", ("either", "a", "b"), ("any", "b", "c"))), [{"p": 2}])

    def test_nobody_can(self):
        book = Book(kinds_of("p", "q"), {"a": Task(same=["a"]), "b": Task()}, ("then", "b", "a"))
        self.assertEqual((least_bands(book), smallest(book)), ((), None))
        for staff in (Staff(), Staff(p=8, q=8), Staff(q=10 ** 30)):
            self.assertFalse(can(book, staff))
            self.assertTrue(is_barrier(book, staff, barrier(book, staff)))

    def test_complete_at_once(self):
        book = Book({"p": []}, {}, DONE)
        self.assertEqual((least_bands(book), smallest(book)), ((Staff(),), 0))
        self.assertEqual((band_run(book, Staff()), list(runs(book, Staff(p=1)))), ((), [()]))
        self.assertTrue(is_run(book, Staff(), ()))

    def test_kinds_and_roles(self):
        tasks = {"a": Task("r"), "b": Task("s", other=["a"])}
        self.assertEqual(self.least(tasks, ("then", "a", "b"), p=["r"], q=["s"], o=["r", "s"]),
                         [{"p": 1, "q": 1}, {"o": 1, "q": 1}, {"o": 1, "p": 1}, {"o": 2}])
        self.assertEqual(self.least(tasks, ("either", ("then", "a", "b"), "b"), p=["r"], q=["s"], o=["r", "s"]), [{"q": 1}, {"o": 1}])

    def test_the_fewest_persons(self):
        book = Book({"o": ["r", "s"], "p": ["r"], "q": ["s"]}, {"a": Task("r"), "b": Task("s")}, ("then", "a", "b"))
        self.assertEqual([staff.numbers() for staff in least_bands(book)], [{"p": 1, "q": 1}, {"o": 1}])
        self.assertEqual(smallest(book), 1)

    def test_five_blocks_and_three_free_persons(self):
        tasks = {"a": Vote(3), "b": Task(other=["a"], many=2), "c": Vote(3, other=["a", "b"])}
        book = Book(kinds_of("p", "q"), tasks, ("then", "a", "b", "c"))
        self.assertEqual([staff.numbers() for staff in least_bands(book)], [Staff(p=many, q=8 - many).numbers() for many in range(9)])
        self.assertEqual(smallest(book), 8)

    def test_all_staffs_one_by_one(self):
        made = random.Random(100)
        tried = 0
        while tried < 25:
            book = small_book(made)
            known = reference.all_stands(book, 10 ** 9)
            if len(known) > 60:
                continue
            tried += 1
            game = StandGame(book, known)
            good = [numbers for numbers in all_numbers(book.kinds, 8)
                    if any(game.turns[stand] == "done" for stand in game.reached(numbers))]
            self.assertEqual(least_bands(book), tuple(Staff.of(numbers) for numbers in least_of(good)), book.text())
            for numbers in all_numbers(book.kinds, 8):
                self.assertIs(can(book, Staff.of(numbers)), numbers in good)


class TestIsRun(unittest.TestCase):
    def setUp(self):
        self.check = check_book()

    def assert_none(self, value, staff=Staff(p=2)):
        self.assertIs(is_run(self.check, staff, value), False, value)

    def test_right_ones(self):
        for value in (SHORT, LONG):
            self.assertIs(is_run(self.check, Staff(p=2), value), True)
        self.assertTrue(is_run(self.check, Staff(p=1), SHORT))

    def test_wrong_ones(self):
        self.assert_none(LONG, Staff(p=1))
        self.assert_none(SHORT, Staff())
        for value in ((), SHORT[:1], LONG[:2], SHORT + (CHECK,), SHORT + (("choose", 1),), LONG + (CHECK,), SHORT * 2, (CHECK, ENTER), SHORT[1:],
                      SHORT[::-1], (ENTER, ("choose", 2)), (ENTER, ("choose", -1)), (("do", 1, (FREE,)), ("choose", 1)),
                      (ENTER, ("choose", 0), ("do", 0, (BLOCK,))), (("do", 0, (FREE, FREE)), ("choose", 1)), (("do", 0, ()), ("choose", 1))):
            self.assert_none(value)

    def test_other_kinds_of_values(self):
        for value in (list(SHORT), [ENTER, ("choose", 1)], (list(ENTER), ("choose", 1)), (ENTER, ["choose", 1]), (("do", 0, [FREE]), ("choose", 1)),
                      (("do", 0, (["p", ()],)), ("choose", 1)), (("do", 0, (("p", []),)), ("choose", 1)), (ENTER, ("choose", True)),
                      (("do", False, (FREE,)), ("choose", 1)), (ENTER, ("choose", "1")), (ENTER, None), (None,), {ENTER: 1}):
            self.assert_none(value)
        self.assert_none((ENTER, ("choose", False), CHECK))
        for value in many_kinds():
            self.assert_none(value)
            self.assert_none((value,))
            self.assert_none((ENTER, value))
            self.assert_none(SHORT + (value,))
            if value != 1 or value is True:
                self.assert_none((ENTER, ("choose", value)))
            if value != 0 or value is False:
                self.assert_none((("do", value, (FREE,)), ("choose", 1)))

    def test_choices_need_the_last_doers(self):
        """No run comes to a choice with more last doers than persons, so this never refuses a run."""
        book = Book({"p": []}, {"a": Vote(2), "b": Task(other=["a"])}, ("then", "a", ("either", DONE, "b")))
        run = (("do", 0, (FREE, FREE)), ("choose", 0))
        self.assertEqual([is_run(book, Staff(p=many), run) for many in range(4)], [False, False, True, True])


class TestBarriers(unittest.TestCase):
    def setUp(self):
        # Two persons can enter and check, but nobody can do the last task.
        tasks = {"enter": Task(), "check": Task(other=["enter"]), "never": Task(same=["enter", "check"], other=["enter"])}
        self.book = Book({"p": []}, tasks, ("then", "enter", ("either", "check", "enter"), "never"))
        self.told = barrier(self.book, Staff(p=2))

    def assert_none(self, value, staff=Staff(p=2)):
        self.assertIs(is_barrier(self.book, staff, value), False, value)

    def test_right_ones(self):
        self.assertIs(self.told.__class__, tuple)
        self.assertEqual(set(self.told), set(stands(self.book)))
        for order in itertools.permutations(self.told):
            self.assertIs(is_barrier(self.book, Staff(p=2), order), True)
        small = barrier(self.book, Staff(p=1))
        self.assertLess(len(small), len(self.told))
        self.assertTrue(is_barrier(self.book, Staff(p=1), small))
        self.assertTrue(is_barrier(self.book, Staff(p=1), self.told))
        self.assertTrue(is_barrier(self.book, Staff(), ((self.book.plan, ()),)))

    def test_wrong_ones(self):
        self.assert_none(())
        for at, stand in enumerate(self.told):
            self.assert_none(self.told[:at] + self.told[at + 1:])
            self.assert_none(self.told + (stand,))
        self.assert_none(self.told + ((DONE, ()),))
        self.assert_none(self.told + (("enter", ()),))
        self.assert_none(self.told + (("then", "enter", "never"),))
        check = check_book()
        for staff in (Staff(), Staff(p=1)):
            self.assertFalse(is_barrier(check, staff, tuple(stands(check))))
        block = (("p", ("enter",)),)
        self.assertFalse(is_barrier(check, Staff(p=1), (FIRST, (BRANCH, block), ("check", block))))

    def test_all_choices_of_the_world(self):
        first, *rest = [stand for stand in self.told if stand[0][1] in ("check", "enter") and stand[1]]
        self.assert_none(tuple(stand for stand in self.told if stand != first))
        self.assert_none(tuple(stand for stand in self.told if stand not in rest))

    def test_other_kinds_of_values(self):
        self.assert_none(list(self.told))
        self.assert_none({stand: None for stand in self.told})
        self.assert_none((list(self.told[0]),) + self.told[1:])
        self.assert_none(self.told + (list(self.told[0]),))
        self.assert_none(((self.told[0][0], []),) + self.told[1:])
        for value in many_kinds():
            self.assert_none(value)
            self.assert_none((value,))
            self.assert_none(self.told + (value,))
            self.assert_none(self.told + ((value, ()),))
            self.assert_none(self.told + (("never", (value,)),))

    def test_drawn_changes(self):
        made = random.Random(101)
        right = 0
        for _ in range(150):
            book = small_book(made)
            known = stands(book)
            if len(known) > 80:
                continue
            for _ in range(4):
                staff = Staff.of({kind: made.randint(0, 2) for kind in book.kinds})
                told = barrier(book, staff)
                for _ in range(4):
                    value = [stand for stand in told or known if made.random() < 0.95] + made.sample(known, min(len(known), made.choice([0, 0, 1, 2])))
                    made.shuffle(value)
                    found = is_barrier(book, staff, tuple(value))
                    right += found
                    self.assertIs(found, is_right_barrier(book, staff, tuple(value), known), (book.text(), staff.numbers(), value))
        self.assertGreater(right, 100)


class TestRuns(unittest.TestCase):
    def test_order(self):
        book = Book(kinds_of("p", "q"), tasks_of("a", "b"), ("beside", ("any", "a", DONE), ("either", "b", DONE)))
        for staff, many in ((Staff(p=1), 7), (Staff(p=1, q=1), 19), (Staff(), 1)):
            found = list(runs(book, staff))
            self.assertEqual(found, all_runs(book, staff, 6))
            self.assertEqual(len(found), many)
        self.assertEqual(list(runs(book, Staff(p=1)))[0], (("choose", 1), ("pick", 0, 1)))

    def test_infinitely_many(self):
        book = Book({"p": []}, tasks_of("a"), ("again", ("either", "a", DONE)))
        found = taken(book, Staff(p=1), 50)
        self.assertEqual(found, all_runs(book, Staff(p=1), len(found[-1]))[:50])
        self.assertEqual(found[:2], [(("choose", 0),), (("choose", 1), ("choose", 1), ("choose", 0))])
        found = taken(book, Staff(), 50)
        self.assertEqual([len(run) for run in found], list(range(1, 100, 2)))
        book.plan = ("again", DONE)
        self.assertEqual([len(run) for run in taken(book, Staff(), 50)], list(range(1, 51)))

    def test_no_further_one(self):
        """A loop that leads to no complete plan makes no run."""
        tasks = {"a": Task(), "n": Task(same=["n"])}
        book = Book({"p": []}, tasks, ("any", "a", ("then", ("again", "a"), "n")))
        self.assertEqual(list(runs(book, Staff(p=1))), [(("pick", 0, 0), ENTER)])
        book.plan = ("then", ("again", "a"), "n")
        self.assertEqual(list(runs(book, Staff(p=1))), [])
        book.plan = ("either", DONE, ("then", ("again", "a"), "n"), DONE)
        self.assertEqual(list(runs(book, Staff(p=1))), [(("choose", 0),), (("choose", 2),)])
        book.plan = ("either", DONE, ("then", "a", ("again", "n")), DONE)
        self.assertEqual(list(runs(book, Staff(p=1))), [(("choose", 0),), (("choose", 2),), (("choose", 1), ENTER, ("choose", 0))])

    def test_lengths_without_runs(self):
        book = Book({"p": []}, tasks_of("a"), ("either", DONE, ("then", *"aaaaaaaa")))
        self.assertEqual([len(run) for run in runs(book, Staff(p=1))], [1, 9])

    def test_drawn_books(self):
        made = random.Random(102)
        tried = 0
        for _ in range(400):
            book = small_book(made)
            staff = Staff.of({kind: made.randint(0, 2) for kind in book.kinds})
            if len(stands(book)) > 60:
                continue
            found = taken(book, staff, 30)
            most = len(found[-1]) if found else 6
            if most <= 6:
                tried += 1
                known = all_runs(book, staff, most)
                self.assertEqual(found, known[:30], (book.text(), staff.numbers()))
                if len(found) < 30:
                    self.assertEqual(len(all_runs(book, staff, most + 2)), len(found))
            self.assertEqual(found[:1], [band_run(book, staff)] if found and len(found[0]) == 0 else found[:1])
            for run in found:
                self.assertTrue(is_run(book, staff, run))
                self.assertEqual(end_of(book, staff, run)[0], DONE)
        self.assertGreater(tried, 200)

    def test_arguments_are_read_when_the_first_value_is_requested(self):
        check = check_book()
        found = runs(check, Staff(p=2))
        check["check"] = Task(same=["check"])
        self.assertEqual(next(found), SHORT)
        check.plan = DONE
        self.assertEqual(list(found), [])
        found = runs(check, Staff())
        self.assertEqual(next(found), ())
        found = runs(check_book(), Staff(p=2))
        self.assertEqual(next(found), SHORT)
        self.assertEqual(list(found), [LONG])
        check = check_book()
        found = runs(check, Staff(p=2))
        self.assertEqual(next(found), SHORT)
        check.plan = "enter"
        self.assertEqual(list(found), [LONG])

    def test_errors_come_with_the_first_value(self):
        for book, staff, error in ((check_book(), Staff(z=1, q=1), UnknownKind), (book_with(2001), Staff(z=1), TooMany)):
            found = runs(book, staff)
            with self.assertRaises(error) as caught:
                next(found)
            self.assertEqual(vars(caught.exception), {"value": "q"} if error is UnknownKind else {"limit": 2000})

    def test_long_runs(self):
        tasks = {"a": Task(other=["a", "b"]), "b": Task(other=["a", "b"])}
        book = Book({"p": []}, tasks, ("again", ("then", *"abababab")))
        found = taken(book, Staff(p=3), 50)
        self.assertEqual(len(found), 50)
        self.assertEqual(sorted(found, key=len), found)
        book.plan = ("again", DONE)
        self.assertEqual(len(taken(book, Staff(), 3000)[-1]), 3000)


class TestErrors(unittest.TestCase):
    def test_unknown_kinds(self):
        check = check_book()
        for staff, kind in ((Staff(q=1), "q"), (Staff(p=5, b=1, z=2), "b"), (Staff(z=1, q=2, p=1), "q")):
            for call in (lambda: can(check, staff), lambda: band_run(check, staff), lambda: is_run(check, staff, None),
                         lambda: is_run(check, staff, SHORT), lambda: barrier(check, staff), lambda: is_barrier(check, staff, None),
                         lambda: list(runs(check, staff))):
                with self.assertRaises(UnknownKind) as caught:
                    call()
                self.assertEqual(caught.exception.value, kind)

    def test_too_many_stands_ahead_of_all(self):
        book, staff = book_with(2001), Staff(nobody=1)
        for call in (lambda: can(book, staff), lambda: band_run(book, staff), lambda: is_run(book, staff, None), lambda: barrier(book, staff),
                     lambda: is_barrier(book, staff, None), lambda: least_bands(book), lambda: smallest(book), lambda: list(runs(book, staff))):
            with self.assertRaises(TooMany) as caught:
                call()
            self.assertEqual(caught.exception.limit, 2000)

    def test_two_thousand_stands(self):
        book = book_with(2000)
        for staff in (Staff(), Staff(a=2), Staff(a=8, b=8, c=8)):
            self.assertEqual(band_run(book, staff) is None, barrier(book, staff) is not None)
            self.assertEqual(band_run(book, staff) is None, not can(book, staff))
            for run in taken(book, staff, 50):
                self.assertTrue(is_run(book, staff, run))


class TestChangedBooks(unittest.TestCase):
    def test_what_is_told_is_about_the_book_as_it_is(self):
        check = check_book()
        copy = check.copied()
        self.assertEqual(smallest(check), 1)
        check["enter"] = Vote(2)
        self.assertEqual((smallest(check), smallest(copy)), (2, 1))
        self.assertEqual(barrier(check, Staff(p=1)), (FIRST,))
        check.plan = DONE
        self.assertEqual((smallest(check), smallest(copy)), (0, 1))
        self.assertTrue(can(check, Staff()))
        self.assertTrue(is_run(check, Staff(), ()))
        self.assertFalse(is_run(copy, Staff(), ()))


if __name__ == "__main__":
    unittest.main()
