import random
import time
import unittest

import reference
from fewhands import logs as module
from fewhands.books import Book
from fewhands.errors import InvalidLog, TooMany, UnknownKind
from fewhands.logs import could_have, fewest_for, least_for
from fewhands.stands import stands
from fewhands.staffs import Staff
from fewhands.tasks import HandOn, Reopen, Task, Vote
from persons import TooBig, all_numbers, can_make, first_state, least_of, small_book, staffs_of, state_moves
from samples import DONE, check_book, kinds_of, state, tasks_of
from test_stands import book_with
from values import many_kinds

HUGE = 10 ** 30


def could_persons(book, kinds, log, most=3000):
    """Whether these persons could have done a log, found by trying everything."""
    found = [(first_state(book, kinds), 0)]
    known = set(found)
    for now, done in found:
        if done == len(log):
            return True
        names = {place: what for word, place, what, _ in reference.plan_moves(now[0]) if word == "do"}
        for move, behind in state_moves(book, kinds, now):
            row = (behind, done + (move[0] == "do"))
            if (move[0] != "do" or names[move[1]] == log[done]) and row not in known:
                known.add(row)
                found.append(row)
        if len(found) > most:
            raise TooBig
    return False


def could_staff(book, staff, log):
    """As could_persons, with stands."""
    found = [((book.plan, ()), 0)]
    known = set(found)
    for stand, done in found:
        if done == len(log):
            return True
        names = {place: what for word, place, what, _ in reference.plan_moves(stand[0]) if word == "do"}
        for move, behind in reference.stand_moves(book, stand):
            if can_make(staff, stand, move) and (move[0] != "do" or names[move[1]] == log[done]):
                row = (behind, done + (move[0] == "do"))
                if row not in known:
                    known.add(row)
                    found.append(row)
    return False


def drawn_log(made, book):
    """A log of a drawn run, with a change now and then."""
    stand, log = (book.plan, ()), []
    for _ in range(made.randint(0, 12)):
        rows = reference.stand_moves(book, stand)
        if not rows:
            break
        move, behind = made.choice(rows)
        if move[0] == "do":
            log.append({place: what for word, place, what, _ in reference.plan_moves(stand[0])}[move[1]])
        stand = behind
    if made.random() < 0.3:
        log.insert(made.randint(0, len(log)), made.choice(book.names + ("zz",)))
    return log


class TestExample(unittest.TestCase):
    def test_the_example_of_the_document(self):
        check = check_book()
        shown = [fewest_for(check, ["enter", "check"]), fewest_for(check, ["enter"]), fewest_for(check, ["enter", "enter"])]
        self.assertEqual(repr(shown), "[2, 1, None]")

    def test_the_whole_book(self):
        check = check_book()
        for log, least in (([], [{}]), (["enter"], [{"p": 1}]), (["enter", "check"], [{"p": 2}]), (["check"], []), (["enter", "check", "check"], []),
                           (["enter", "zz"], []), (["zz"], []), (["check", "enter"], [])):
            self.assertEqual([staff.numbers() for staff in least_for(check, log)], least)
            self.assertEqual(least_for(check, tuple(log)), least_for(check, log))
            self.assertEqual(fewest_for(check, log), sum(least[0].values()) if least else None)
            for many in (0, 1, 2, 8, 9, HUGE):
                self.assertIs(could_have(check, Staff(p=many), log), bool(least) and many >= least[0].get("p", 0))
                self.assertIs(could_have(check, Staff(p=many), tuple(log)), could_have(check, Staff(p=many), log))


class TestLogs(unittest.TestCase):
    def test_choices_between_deeds(self):
        book = Book({"p": []}, tasks_of("a", "b", "c"), ("then", ("either", "a", DONE), ("any", ("then", "b", "c"), DONE), ("again", "c")))
        for log, told in ((["a"], True), (["a", "b"], True), (["b"], True), (["c"], True), (["b", "c", "c", "c"], True), (["a", "c"], True),
                          (["a", "b", "b"], False), (["b", "a"], False), (["a", "a"], False), ([], True), (["c"] * 200, True), (["b"] + ["c"] * 199, True)):
            self.assertIs(could_have(book, Staff(p=1), log), told, log)
            self.assertIs(could_have(book, Staff(), log), log == [])

    def test_plans_need_not_be_complete(self):
        book = Book({"p": []}, {"a": Task(), "n": Task(same=["n"])}, ("then", "a", "a", "n"))
        self.assertEqual([fewest_for(book, ["a"] * many) for many in range(4)], [0, 1, 1, None])

    def test_loops_without_deeds(self):
        book = Book({"p": []}, tasks_of("a"), ("again", ("either", ("then",), "a", ("again", DONE))))
        self.assertEqual([fewest_for(book, ["a"] * many) for many in (0, 1, 5, 200)], [0, 1, 1, 1])

    def test_last_doers(self):
        tasks = {"a": Task(), "b": Task(other=["a"]), "c": Task(same=["a"]), "h": HandOn("a"), "f": Reopen("a")}
        book = Book({"p": []}, tasks, ("again", ("any", "a", "b", "c", "h", "f")))
        for log, many in ((["a", "b"], 2), (["a", "c"], 1), (["c"], None), (["b"], 1), (["a", "f", "b"], 1), (["a", "f", "c"], None),
                          (["h", "c"], 1), (["h", "b"], 2), (["a", "h", "c", "b"], 2), (["a", "b", "h", "b"], 2)):
            self.assertEqual(fewest_for(book, log), many, log)

    def test_beside(self):
        book = Book({"p": []}, {"a": Task(), "b": Task(other=["a"])}, ("beside", ("then", "a", "a"), "b"))
        self.assertEqual([fewest_for(book, list(log)) for log in ("aab", "aba", "baa", "ab", "ba", "bb", "aaa")], [2, 2, 1, 2, 1, None, None])

    def test_last_doers_who_must_be_there(self):
        """What the staff picks needs the last doers, so all persons of a run are counted together."""
        tasks = {"a": Vote(3), "b": Task(other=["a"], many=2), "c": Vote(3, other=["a", "b"])}
        book = Book(kinds_of("p", "q"), tasks, ("then", "a", "b", ("any", "c", DONE)))
        self.assertEqual([fewest_for(book, list(log)) for log in ("", "a", "ab", "abc")], [0, 3, 5, 8])
        self.assertEqual([staff.numbers() for staff in least_for(book, ["a", "b", "c"])], [Staff(p=many, q=8 - many).numbers() for many in range(9)])

    def test_order_and_kinds(self):
        book = Book({"p": ["r"], "q": ["s"], "o": ["r", "s"]}, {"a": Task("r"), "b": Task("s", other=["a"])}, ("then", "a", "b"))
        self.assertEqual([staff.numbers() for staff in least_for(book, ["a", "b"])],
                         [{"p": 1, "q": 1}, {"o": 1, "q": 1}, {"o": 1, "p": 1}, {"o": 2}])
        self.assertEqual([staff.numbers() for staff in least_for(book, ["a"])], [{"p": 1}, {"o": 1}])

    def test_the_fewest_persons(self):
        book = Book({"o": ["r", "s"], "p": ["r"], "q": ["s"]}, {"a": Task("r"), "b": Task("s")}, ("then", "a", "b"))
        self.assertEqual([staff.numbers() for staff in least_for(book, ["a", "b"])], [{"p": 1, "q": 1}, {"o": 1}])
        self.assertEqual(fewest_for(book, ["a", "b"]), 1)

    def test_persons_who_are_told_apart(self):
        made = random.Random(140)
        seen = []
        for _ in range(400):
            book = small_book(made)
            log = drawn_log(made, book)
            for kinds in staffs_of(book.kinds, 3):
                try:
                    told = could_persons(book, kinds, log)
                except TooBig:
                    continue
                staff = Staff.of({kind: kinds.count(kind) for kind in kinds})
                self.assertIs(could_have(book, staff, log), told, (book.text(), kinds, log))
                seen.append(told)
        self.assertGreater(min(seen.count(True), seen.count(False)), 500)

    def test_all_staffs_one_by_one(self):
        made = random.Random(141)
        tried = 0
        while tried < 25:
            book = small_book(made)
            if len(stands(book)) > 40 or not book.remembered:
                continue
            tried += 1
            for log in (drawn_log(made, book), drawn_log(made, book)):
                good = [numbers for numbers in all_numbers(book.kinds, 4) if could_staff(book, Staff.of(numbers), log)]
                least = [staff for staff in least_for(book, log) if max(staff.numbers().values(), default=0) <= 4]
                self.assertEqual(least, [Staff.of(numbers) for numbers in least_of(good)], (book.text(), log))
                self.assertIs(least_for(book, log).__class__, tuple)
                self.assertEqual(fewest_for(book, log), min([staff.total for staff in least_for(book, log)], default=None))


class TestErrors(unittest.TestCase):
    def assert_invalid(self, value, book=None):
        check = check_book() if book is None else book
        for call in (lambda: could_have(check, Staff(p=2), value), lambda: least_for(check, value), lambda: fewest_for(check, value)):
            with self.assertRaises(InvalidLog, msg=repr(value)) as caught:
                call()
            self.assertIs(caught.exception.value, value)

    def test_logs(self):
        for value in (["Enter"], ["enter", ""], ["enter", "ninechars"], ["enter", None], ["enter", 1], ["enter", ("check",)], ["enter", ["check"]],
                      ["enter", b"check"], ["en ter"], {"enter"}, {"enter": 1}, "enter", "", None, 7, b"enter", ["enter"] * 201, ("enter",) * 201,
                      ["zz"] * 201, ["enter"] * 200 + [None], frozenset(["enter"]), ["\u00e9"], [True], Staff(p=1)):
            if not isinstance(value, str):
                self.assert_invalid(value)
        for value in many_kinds():
            if value not in ((), [], ("p",), ["p"]):
                self.assert_invalid(value)
            if value != "p" and value != "self":
                self.assert_invalid(["enter", value])

    def test_texts_are_no_lists(self):
        for value in ("enter", "", "a"):
            self.assert_invalid(value)

    def test_200_names(self):
        check = check_book()
        for log in (["enter"] * 200, ("zz",) * 200, ["same"] * 200):
            self.assertIsNone(fewest_for(check, log))
        book = Book({"p": []}, tasks_of("a"), ("again", "a"))
        self.assertEqual(fewest_for(book, ["a"] * 200), 1)

    def test_unknown_kinds_ahead_of_logs(self):
        check = check_book()
        before = state(check)
        for staff, kind in ((Staff(q=1), "q"), (Staff(p=5, b=1, z=2), "b")):
            for log in ([], ["enter"], None, ["Enter"]):
                with self.assertRaises(UnknownKind) as caught:
                    could_have(check, staff, log)
                self.assertEqual(caught.exception.value, kind)
        self.assertEqual(state(check), before)

    def test_too_many_stands_ahead_of_all(self):
        book = book_with(2001)
        for call in (lambda: could_have(book, Staff(z=1), None), lambda: least_for(book, None), lambda: fewest_for(book, None),
                     lambda: fewest_for(book, [])):
            with self.assertRaises(TooMany) as caught:
                call()
            self.assertEqual(caught.exception.limit, 2000)

    def test_arguments(self):
        check, log = check_book(), ["enter", "check"]
        self.assertTrue(could_have(log=log, staff=Staff(p=2), book=check))
        self.assertEqual(least_for(log=log, book=check), (Staff(p=2),))
        self.assertEqual(fewest_for(log=log, book=check), 2)
        self.assertEqual(log, ["enter", "check"])
        for name in ("could_have", "least_for", "fewest_for"):
            self.assertEqual(getattr(module, name).__module__, "fewhands.logs")

    def test_books_that_are_changed(self):
        check = check_book()
        copy = check.copied()
        self.assertEqual(fewest_for(check, ["enter", "check"]), 2)
        check["check"] = Task()
        self.assertEqual((fewest_for(check, ["enter", "check"]), fewest_for(copy, ["enter", "check"])), (1, 2))

    def test_large_books(self):
        tasks = {"x": Vote(2), "y": Task(other=["x"]), "z": Task(other=["y", "z"])}
        book = Book(kinds_of("a", "b", "c"), tasks, ("again", ("any", "x", "y", "z")))
        begun = time.time()
        self.assertGreater(len(stands(book)), 1300)
        self.assertEqual(fewest_for(book, (["x", "y", "z", "x", "z"] * 40)), 3)
        self.assertTrue(could_have(book, Staff(a=5), ["x", "y", "z", "y"] * 50))
        self.assertLess(time.time() - begun, 60)


if __name__ == "__main__":
    unittest.main()
