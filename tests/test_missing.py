import random
import unittest

import reference
from fewhands import missing as module
from fewhands.books import Book
from fewhands.errors import TooMany, UnknownKind
from fewhands.missing import critical, is_safe, outlasted, spared, stuck_run
from fewhands.stands import stands
from fewhands.staffs import Staff
from fewhands.tasks import HandOn, Reopen, Task, Vote
from fewhands.winning import always, greatest_losers, least_staffs
from persons import StandGame, TooBig, all_numbers, can_make, end_of, lasting_staff, small_book
from samples import DONE, check_book, kinds_of, state, tasks_of
from test_stands import book_with

FREE = ("p", ())
HUGE = 10 ** 30


def told(book, staff):
    return spared(book, staff), outlasted(book, staff)


class TestByHand(unittest.TestCase):
    def test_one_kind(self):
        check = check_book()
        self.assertEqual([spared(check, Staff(p=many)) for many in range(6)], [None, None, 0, 1, 2, 3])
        self.assertEqual([outlasted(check, Staff(p=many)) for many in range(9)], [None, None, 0, 1, 2, 3, 4, 4, 4])
        self.assertEqual([critical(check, Staff(p=many)) for many in range(5)], [None, None, Staff(p=1), Staff(p=2), Staff(p=3)])
        self.assertEqual((spared(check, Staff(p=HUGE)), outlasted(check, Staff(p=HUGE))), (HUGE - 2, 4))
        self.assertEqual(critical(check, Staff(p=HUGE)), Staff(p=HUGE - 1))

    def test_two_kinds(self):
        """A boss approves what another person has entered: of two bosses one can be missing, of one none."""
        book = Book({"p": [], "boss": ["sign"]}, {"enter": Task(), "sign": Task("sign", other=["enter"])}, ("then", "enter", "sign"))
        self.assertEqual(greatest_losers(book), ({"boss": 0, "p": None}, {"boss": 1, "p": 0}))
        for staff, many, gone in (
            (Staff(p=1, boss=1), 0, None), (Staff(p=5, boss=1), 0, Staff(boss=1)), (Staff(p=1, boss=2), 1, None), (Staff(boss=2), 0, Staff(boss=1)),
            (Staff(boss=5), 3, Staff(boss=4)), (Staff(p=5, boss=3), 2, Staff(boss=3)), (Staff(p=HUGE, boss=2), 1, Staff(boss=2)),
            (Staff(p=2, boss=HUGE), HUGE - 1, None), (Staff(boss=HUGE), HUGE - 2, Staff(boss=HUGE - 1)), (Staff(p=HUGE, boss=HUGE), HUGE - 1, None),
        ):
            self.assertEqual(spared(book, staff), many, staff.numbers())
            self.assert_critical(book, staff)
            if gone is not None:
                self.assertEqual(critical(book, staff), gone)
        for staff in (Staff(), Staff(p=HUGE), Staff(boss=1)):
            self.assertEqual((spared(book, staff), critical(book, staff), outlasted(book, staff)), (None, None, None))

    def test_three_kinds(self):
        tasks = {"a": Task("r"), "b": Task("s", many=2), "c": Task("t")}
        book = Book({"p": ["r"], "q": ["s"], "o": ["r", "s", "t"]}, tasks, ("then", "a", "b", "c"))
        self.assertEqual([staff.numbers() for staff in least_staffs(book)], [{"o": 1, "q": 1}, {"o": 2}])
        for staff, many in ((Staff(o=1, q=1), 0), (Staff(o=1, q=9, p=9), 0), (Staff(o=2), 0), (Staff(o=2, q=1), 1), (Staff(o=2, q=2), 1),
                            (Staff(o=3, q=0), 1), (Staff(o=3, q=1), 2), (Staff(o=3, q=9), 2), (Staff(o=HUGE, p=HUGE), HUGE - 2)):
            self.assertEqual(spared(book, staff), many, staff.numbers())
            self.assertEqual(outlasted(book, staff), min(many, 4), staff.numbers())
            self.assert_critical(book, staff)

    def assert_critical(self, book, staff):
        gone = critical(book, staff)
        self.assertEqual(gone.total, spared(book, staff) + 1)
        self.assertTrue(gone.fits_in(staff))
        self.assertFalse(always(book, staff - gone))

    def test_all_persons_can_be_missing(self):
        book = Book(kinds_of("p", "q"), tasks_of("a"), ("any", "a", DONE))
        for staff in (Staff(), Staff(p=1), Staff(p=2, q=1), Staff(p=HUGE, q=HUGE)):
            self.assertEqual(spared(book, staff), staff.total)
            self.assertIsNone(critical(book, staff))
            self.assertEqual(outlasted(book, staff), min(4, staff.total))

    def test_who_leaves_at_the_wrong_time(self):
        tasks = {"a": Task(), "v": Vote(2), "s": Task(same=["a"]), "t": Task(same=["v"]), "w": Task(same=["v"], many=2)}
        book = Book({"p": []}, tasks, ("then", "a", "s"))
        self.assertEqual([told(book, Staff(p=many)) for many in (1, 2, 9)], [(0, 0), (1, 0), (8, 0)])
        book.plan = ("then", "v", "t")
        self.assertEqual([told(book, Staff(p=many)) for many in (2, 3, 9)], [(0, 0), (1, 1), (7, 1)])
        book.plan = ("then", "v", "w")
        self.assertEqual([told(book, Staff(p=many)) for many in (2, 3, 9)], [(0, 0), (1, 0), (7, 0)])
        book.plan = ("then", "a", ("any", "s", "v"))
        self.assertEqual([told(book, Staff(p=many)) for many in (1, 2, 3, 9)], [(0, 0), (1, 0), (2, 1), (8, 4)])

    def test_who_leaves_behind_a_pick(self):
        """Persons may also leave between a choice of the staff and the deed: then it is too late to choose again."""
        tasks = {"a": Task("r"), "b": Task("s"), "c": Task("r"), "d": Task("s")}
        book = Book({"p": ["r"], "q": ["s"]}, tasks, ("any", "a", "b"))
        self.assertEqual(told(book, Staff(p=1, q=1)), (1, 0))
        self.assertEqual(told(book, Staff(p=2, q=2)), (3, 1))
        self.assertEqual(told(book, Staff(p=HUGE, q=5)), (HUGE + 4, 4))

    def test_who_leaves_ahead_of_a_choice_of_the_world(self):
        book = Book({"p": []}, {"a": Task(), "s": Task(same=["a"])}, ("then", "a", ("either", "s", DONE)))
        self.assertEqual(told(book, Staff(p=5)), (4, 0))
        book.plan = ("either", ("then", "a", "a"), DONE)
        self.assertEqual(told(book, Staff(p=5)), (4, 4))

    def test_last_doers_who_leave_are_none_any_more(self):
        """Who leaves is no last doer, so a new person is none, but blocks nobody, either."""
        tasks = {"a": Task(), "b": Task(other=["a"])}
        book = Book({"p": []}, tasks, ("then", "a", "b"))
        self.assertEqual([told(book, Staff(p=many)) for many in (2, 3, 4)], [(0, 0), (1, 1), (2, 2)])

    def test_twelve_persons_of_a_kind(self):
        """Eight are needed at a time, and four of them may leave."""
        tasks = {"a": Vote(3), "b": Task(other=["a"], many=2), "c": Vote(3, other=["a", "b"])}
        book = Book({"p": []}, tasks, ("then", "a", "b", "c"))
        self.assertEqual([outlasted(book, Staff(p=many)) for many in range(7, 15)], [None, 0, 1, 2, 3, 4, 4, 4])
        self.assertEqual([spared(book, Staff(p=many)) for many in range(7, 15)], [None, 0, 1, 2, 3, 4, 5, 6])
        self.assertEqual(told(book, Staff(p=HUGE)), (HUGE - 8, 4))
        book = Book(kinds_of("p", "q"), tasks, ("then", "a", "b", "c"))
        self.assertEqual([outlasted(book, Staff(p=many, q=5)) for many in range(2, 9)], [None, 0, 1, 2, 3, 4, 4])

    def test_no_more_than_four_and_than_there_are(self):
        book = Book({"p": []}, tasks_of("a"), DONE)
        self.assertEqual([outlasted(book, Staff(p=many)) for many in range(7)], [0, 1, 2, 3, 4, 4, 4])
        self.assertEqual([spared(book, Staff(p=many)) for many in range(7)], [0, 1, 2, 3, 4, 5, 6])


class TestAgainstStands(unittest.TestCase):
    def test_spared(self):
        """Beside all staffs with fewer persons."""
        made = random.Random(110)
        tried = 0
        while tried < 60:
            book = small_book(made)
            if len(stands(book)) > 60:
                continue
            tried += 1
            game = StandGame(book, reference.all_stands(book, 10 ** 9))
            bad = [numbers for numbers in all_numbers(book.kinds, 4) if game.known[0] not in game.good(numbers)]
            for numbers in all_numbers(book.kinds, 4):
                below = [sum(numbers.values()) - sum(less.values()) for less in bad
                         if all(less[kind] <= numbers[kind] for kind in numbers)]
                most = min(below) - 1 if below else sum(numbers.values())
                self.assertEqual(spared(book, Staff.of(numbers)), None if numbers in bad else most, (book.text(), numbers))

    def test_outlasted(self):
        made = random.Random(111)
        seen = []
        for _ in range(350):
            book = small_book(made)
            staff = {kind: made.randint(0, 6) for kind in book.kinds}
            if always(book, Staff.of(staff)):
                try:
                    most = max(many for many in range(min(4, sum(staff.values())) + 1) if lasting_staff(book, staff, many, 1500))
                except TooBig:
                    continue
                found = told(book, Staff.of(staff))
                self.assertEqual(found[1], most, (book.text(), staff))
                self.assertLessEqual(found[1], found[0])
                seen.append(found[0] - found[1])
        self.assertGreater(len(seen), 80)
        self.assertGreater(len(set(seen)), 3)


class TestSafe(unittest.TestCase):
    def test_careless_choices(self):
        book = Book({"p": []}, {"a": Task(), "v": Vote(3)}, ("then", "a", ("any", "a", "v")))
        self.assertEqual([always(book, Staff(p=many)) for many in range(4)], [False, True, True, True])
        self.assertEqual([is_safe(book, Staff(p=many)) for many in range(4)], [False, False, False, True])
        self.assertEqual(stuck_run(book, Staff(p=2)), (("do", 0, (FREE,)), ("pick", 0, 1)))
        self.assertEqual(stuck_run(book, Staff()), ())
        self.assertIsNone(stuck_run(book, Staff(p=3)))

    def test_careless_groups(self):
        """A boss who enters cannot sign any more: with more persons there is more to be done wrong."""
        book = Book({"p": [], "boss": ["sign"]}, {"enter": Task(), "sign": Task("sign", other=["enter"])}, ("then", "enter", "sign"))
        self.assertFalse(is_safe(book, Staff(p=1, boss=1)))
        self.assertEqual(stuck_run(book, Staff(p=1, boss=1)), (("do", 0, (("boss", ()),)),))
        self.assertTrue(is_safe(book, Staff(p=1, boss=2)))
        self.assertTrue(is_safe(book, Staff(boss=2)))

    def test_more_persons_harm(self):
        book = Book({"p": ["r"], "q": []}, {"a": Task(), "b": Task("r", same=["a"])}, ("then", "a", "b"))
        self.assertTrue(is_safe(book, Staff(p=1)))
        self.assertFalse(is_safe(book, Staff(p=1, q=1)))
        self.assertFalse(is_safe(book, Staff(p=9, q=1)))
        self.assertTrue(is_safe(book, Staff(p=HUGE)))
        self.assertFalse(is_safe(book, Staff(p=HUGE, q=HUGE)))

    def test_choices_of_the_world(self):
        check = check_book()
        self.assertEqual([is_safe(check, Staff(p=many)) for many in range(4)], [False, False, True, True])
        self.assertEqual(stuck_run(check, Staff(p=1)), (("do", 0, (FREE,)), ("choose", 0)))
        self.assertEqual(stuck_run(check, Staff()), ())

    def test_complete_plans_are_not_stuck(self):
        book = Book({"p": []}, tasks_of("a"), DONE)
        self.assertIs(is_safe(book, Staff()), True)
        self.assertIsNone(stuck_run(book, Staff()))

    def test_all_runs_of_small_books(self):
        made = random.Random(112)
        seen = []
        for _ in range(300):
            book = small_book(made)
            if len(stands(book)) > 60:
                continue
            game = StandGame(book, reference.all_stands(book, 10 ** 9))
            for numbers in all_numbers(book.kinds, 3)[::3]:
                stuck = [stand for stand in game.reached(numbers) if game.turns[stand] == "staff" and not game.nexts(stand, numbers)]
                staff = Staff.of(numbers)
                run = stuck_run(book, staff)
                seen.append(run is None)
                self.assertIs(is_safe(book, staff), not stuck, (book.text(), numbers))
                self.assertEqual(run is None, not stuck)
                if run is not None:
                    stand = end_of(book, staff, run)
                    self.assertIn(stand, stuck)
                    self.assertFalse([move for move, _ in reference.stand_moves(book, stand) if can_make(staff, stand, move)])
        self.assertGreater(min(seen.count(True), seen.count(False)), 100)


class TestErrors(unittest.TestCase):
    def test_unknown_kinds(self):
        check = check_book()
        before = state(check)
        for staff, kind in ((Staff(q=1), "q"), (Staff(p=5, b=1, z=2), "b"), (Staff(z=1, q=2, p=1), "q")):
            for call in (spared, critical, outlasted, is_safe, stuck_run):
                with self.assertRaises(UnknownKind) as caught:
                    call(check, staff)
                self.assertEqual(caught.exception.value, kind)
        self.assertEqual(state(check), before)

    def test_too_many_stands_ahead_of_all(self):
        for call in (spared, critical, outlasted, is_safe, stuck_run):
            for staff in (Staff(nobody=1), Staff(a=5)):
                with self.assertRaises(TooMany) as caught:
                    call(book_with(2001), staff)
                self.assertEqual(caught.exception.limit, 2000)

    def test_too_many_stands_without_persons_who_leave(self):
        """Only outlasted counts them, and after all other errors."""
        book = book_with(2000)
        with self.assertRaises(TooMany) as caught:
            outlasted(book, Staff(a=8, b=8, c=8))
        self.assertEqual(caught.exception.limit, 2000)
        self.assertIs(spared(book, Staff(a=8, b=8, c=8)).__class__, int)
        with self.assertRaises(UnknownKind) as caught:
            outlasted(book, Staff(nobody=1))
        self.assertEqual(caught.exception.value, "nobody")

    def test_stands_without_persons_who_leave(self):
        """Behind the vote each plan has both last doers, one or none of them; each stand counts once."""
        for many, is_right in ((663, True), (664, False)):
            book = Book({"p": []}, {"v": Vote(2), "x": Task(other=["v"])}, ("then", "v", ("any", *different(many))))
            self.assertEqual(len(stands(book)), 1 + many + 3)
            self.assert_counted(book, 1 + 3 * (many + 3), Staff(p=9), 4, is_right)

    def test_at_most_four_last_doers_are_taken_away(self):
        """Of five last doers there are eleven remainders without more than four of them."""
        tasks = {"v": Vote(3), "w": Task(many=2, other=["v"]), "x": Task(other=["w"])}
        for many, is_right in ((178, True), (179, False)):
            book = Book({"p": []}, tasks, ("then", "v", "w", ("any", *different(many))))
            self.assertEqual(len(stands(book)), 2 + many + 3)
            self.assert_counted(book, 1 + 4 + 11 * (many + 3), Staff(p=9), 4, is_right)

    def assert_counted(self, book, many, staff, most, is_right):
        self.assertEqual(many <= 2000, is_right)
        if is_right:
            self.assertEqual(outlasted(book, staff), most)
        else:
            with self.assertRaises(TooMany) as caught:
                outlasted(book, staff)
            self.assertEqual(caught.exception.limit, 2000)
            self.assertIs(spared(book, staff).__class__, int)


def different(many):
    """So many different plans without tasks, which all lead to ("either", ("then",)) and to ("then",)."""
    more = ("either", DONE)
    return [("any",) + tuple(more if number >> at & 1 else DONE for at in range(10)) for number in range(1, many + 1)]


class TestArguments(unittest.TestCase):
    def test_by_name(self):
        check, staff = check_book(), Staff(p=3)
        self.assertEqual(spared(staff=staff, book=check), 1)
        self.assertEqual(critical(staff=staff, book=check), Staff(p=2))
        self.assertEqual(outlasted(staff=staff, book=check), 1)
        self.assertTrue(is_safe(staff=staff, book=check))
        self.assertIsNone(stuck_run(staff=staff, book=check))

    def test_functions_stand_in_their_file(self):
        for name in "spared critical outlasted is_safe stuck_run".split():
            self.assertEqual(getattr(module, name).__module__, "fewhands.missing")

    def test_books_that_are_changed(self):
        check = check_book()
        copy = check.copied()
        self.assertEqual(told(check, Staff(p=3)), (1, 1))
        check["check"] = Task()
        self.assertEqual((told(check, Staff(p=3)), told(copy, Staff(p=3))), ((2, 2), (1, 1)))
        check.plan = ("then", "enter", "check", "check", DONE)
        check |= {"check": Task(same=["check"])}
        self.assertEqual((told(check, Staff(p=3)), told(copy, Staff(p=3))), ((None, None), (1, 1)))
        self.assertEqual(stuck_run(check, Staff(p=1)), (("do", 0, (FREE,)),))


if __name__ == "__main__":
    unittest.main()
