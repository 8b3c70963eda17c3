import itertools
import random
import unittest

from fewhands.bands import band_run, barrier, can, is_barrier, is_run, least_bands, smallest
from fewhands.books import Book
from fewhands.missing import critical, is_safe, outlasted, spared, stuck_run
from fewhands.stands import stands
from fewhands.staffs import Staff
from fewhands.tasks import HandOn, Reopen, Task, Vote
from fewhands.winning import always, attack, is_attack, is_strategy, strategy
from persons import (Game, TooBig, end_of, is_right_attack, is_right_barrier, is_right_strategy, lasting, small_book, staffs_of)
from samples import DONE


def staff_of(kinds):
    return Staff.of({kind: kinds.count(kind) for kind in kinds})


class TestGames(unittest.TestCase):
    """Drawn books beside a second writing of the games with persons who are told apart."""

    def games(self, seed, many):
        """Books with the kinds of up to three persons, and the game of these persons, where it is small enough."""
        made = random.Random(seed)
        for _ in range(many):
            book = small_book(made)
            for kinds in staffs_of(book.kinds, 3):
                try:
                    yield book, kinds, Game(book, kinds, 300)
                except TooBig:
                    pass

    def test_always(self):
        seen = []
        for book, kinds, game in self.games(90, 400):
            staff, known = staff_of(kinds), stands(book)
            told = always(book, staff)
            seen.append(told)
            self.assertIs(told, game.always(), (book.text(), kinds))
            plan, ranks = strategy(book, staff), attack(book, staff)
            if told:
                self.assertIsNone(ranks)
                self.assertTrue(is_right_strategy(book, staff, plan, known), (book.text(), kinds, plan))
                self.assertTrue(is_strategy(book, staff, plan))
            else:
                self.assertIsNone(plan)
                self.assertTrue(is_right_attack(book, staff, ranks, known), (book.text(), kinds, ranks))
                self.assertTrue(is_attack(book, staff, ranks))
                self.assertLess(max(rank for rank, _ in ranks.values()), 10 ** 18)
        self.assertGreater(min(seen.count(True), seen.count(False)), 500)

    def test_bands(self):
        seen = []
        for book, kinds, game in self.games(91, 400):
            staff, steps = staff_of(kinds), game.steps_to_end()
            seen.append(steps)
            self.assertIs(can(book, staff), steps is not None, (book.text(), kinds))
            run, stopped = band_run(book, staff), barrier(book, staff)
            if steps is None:
                self.assertIsNone(run)
                self.assertTrue(is_right_barrier(book, staff, stopped, stands(book)))
                self.assertTrue(is_barrier(book, staff, stopped))
            else:
                self.assertIsNone(stopped)
                self.assertEqual(len(run), steps)
                self.assertEqual(end_of(book, staff, run)[0], DONE)
                self.assertTrue(is_run(book, staff, run))
        self.assertGreater(seen.count(None), 500)
        self.assertGreater(len(seen) - seen.count(None), 500)

    def test_safe_staffs(self):
        seen = []
        for book, kinds, game in self.games(92, 400):
            staff, steps = staff_of(kinds), game.steps_to_stuck()
            seen.append(steps)
            self.assertIs(is_safe(book, staff), steps is None, (book.text(), kinds))
            run = stuck_run(book, staff)
            if steps is None:
                self.assertIsNone(run)
            else:
                self.assertEqual(len(run), steps)
                plan, _ = end = end_of(book, staff, run)
                self.assertNotEqual(plan, DONE)
                self.assertFalse(is_run(book, staff, run))
                self.assertIn(end, stands(book))
        self.assertGreater(seen.count(None), 200)
        self.assertGreater(len(set(seen)), 3)

    def test_missing_persons(self):
        seen = []
        for book, kinds, game in self.games(93, 300):
            staff = staff_of(kinds)
            told = spared(book, staff)
            if not game.always():
                self.assertEqual((told, critical(book, staff), outlasted(book, staff)), (None, None, None))
                continue
            most = max(many for many in range(len(kinds) + 1)
                       if all(Game(book, left).always() for left in itertools.combinations(kinds, len(kinds) - many)))
            self.assertEqual(told, most, (book.text(), kinds))
            gone = critical(book, staff)
            if most == len(kinds):
                self.assertIsNone(gone)
            else:
                self.assertEqual(gone.total, most + 1)
                self.assertTrue(gone.fits_in(staff))
                self.assertFalse(always(book, staff - gone))
            seen.append(len(kinds) - most)
        self.assertGreater(min(seen.count(0), seen.count(1), seen.count(2), seen.count(3)), 20)

    def test_persons_who_leave(self):
        seen = []
        for book, kinds, game in self.games(94, 300):
            if game.always():
                try:
                    most = max(many for many in range(len(kinds) + 1) if lasting(book, kinds, many))
                except TooBig:
                    continue
                self.assertEqual(outlasted(book, staff_of(kinds)), most, (book.text(), kinds))
                seen.append(spared(book, staff_of(kinds)) - most)
        self.assertGreaterEqual(min(seen), 0)
        self.assertGreater(seen.count(0), 400)

    def test_persons_who_leave_at_the_wrong_time(self):
        """Fewer persons can leave at any time than can be missing from the beginning."""
        for tasks, plan in (
            ({"a": Task(), "b": Task(same=["a"])}, ("then", "a", "b")),
            ({"a": Task(), "b": Task(same=["a"])}, ("then", "a", ("any", "b", "b"))),
            ({"a": Vote(2), "b": Task(same=["a"])}, ("then", "a", "b")),
            ({"a": HandOn("x"), "b": Task(same=["x"]), "c": Reopen("x")}, ("then", "a", ("either", "b", "c"))),
            ({"a": Task(), "b": Task(same=["a"]), "c": Task()}, ("then", "a", ("any", "b", "c"))),
            ({"a": Task(), "b": Task(other=["a"]), "c": Task(same=["b"])}, ("then", "a", "b", ("again", "c"))),
        ):
            book = Book({"p": []}, tasks, plan)
            for kinds in staffs_of(book.kinds, 4):
                if always(book, staff_of(kinds)):
                    most = max(many for many in range(len(kinds) + 1) if lasting(book, kinds, many))
                    self.assertEqual(outlasted(book, staff_of(kinds)), most, (book.text(), kinds))
        book = Book({"p": []}, {"a": Vote(2), "b": Task(same=["a"])}, ("then", "a", "b"))
        self.assertEqual([spared(book, Staff(p=4)), outlasted(book, Staff(p=4))], [2, 1])
        book.plan = ("then", "a", "a")
        self.assertEqual([spared(book, Staff(p=4)), outlasted(book, Staff(p=4))], [2, 2])

    def test_least_bands(self):
        made = random.Random(95)
        for _ in range(200):
            book = small_book(made)
            least = least_bands(book)
            self.assertEqual(smallest(book), min([staff.total for staff in least], default=None))
            for kinds in staffs_of(book.kinds, 3):
                staff = staff_of(kinds)
                self.assertEqual(can(book, staff), any(one.fits_in(staff) for one in least), (book.text(), kinds))


if __name__ == "__main__":
    unittest.main()
