import time
import unittest

from fewhands.books import Book
from fewhands.errors import (Clash, CommandError, DidLast, Hopeless, InTrial, InvalidName, NotNow, OutOfRange, TooMany, UnknownCase, UnknownPerson)
from fewhands.offices import GuardedLoggedOffice, GuardedOffice, LoggedOffice, Office
from fewhands.stands import moves
from fewhands.tasks import Task, Vote
from office_model import seen
from samples import DONE, check_book, kinds_of, tasks_of
from test_offices import check_office
from test_stands import book_with

GUARDED = (GuardedOffice, GuardedLoggedOffice)
LOGGED = (LoggedOffice, GuardedLoggedOffice)


class TestGuarded(unittest.TestCase):
    def assert_hopeless(self, office, case, call, error=Hopeless):
        before = seen(office), getattr(office, "log", None)
        with self.assertRaises(error) as caught:
            call()
        self.assertEqual(list(vars(caught.exception).values()), [case])
        self.assertEqual((seen(office), getattr(office, "log", None)), before)

    def test_start(self):
        for make in GUARDED:
            for persons in ((), ("ann",)):
                office = check_office(make, persons)
                self.assert_hopeless(office, "c", lambda: office.start("c"))
            office = check_office(make, ("ann", "bob"))
            office.start("c")
            self.assertEqual(office.running, ("c",))
            office = Office(check_book(), {})
            office.start("c")

    def test_deeds(self):
        """A boss who enters cannot sign any more."""
        book = Book({"p": [], "boss": ["sign"]}, {"enter": Task(), "sign": Task("sign", other=["enter"])}, ("then", "enter", "sign"))
        for make in GUARDED:
            office = make(book, {"ann": "p", "bob": "boss"})
            office.start("c")
            self.assertEqual(office.helpful("c"), [("do", 0, (("p", ()),))])
            self.assert_hopeless(office, "c", lambda: office.do("c", "enter", "bob"))
            office.join("cy", "boss")
            self.assertEqual(office.helpful("c"), [("do", 0, (("boss", ()),)), ("do", 0, (("p", ()),))])
            office.do("c", "enter", "bob")
            self.assertEqual(office.helpful("c"), [("do", 0, (("boss", ()),))])
            self.assert_hopeless(office, "c", lambda: office.leave("cy"))
            office.leave("ann")
            office.do("c", "sign", "cy")
            self.assertEqual(office.helpful("c"), [])
            office.leave("cy")
            office.leave("bob")

    def test_picks_and_choices(self):
        book = Book({"p": []}, {"a": Task(), "v": Vote(3)}, ("then", ("either", "a", DONE), ("any", "v", "a", DONE)))
        for make in GUARDED:
            office = make(book, {"ann": "p"})
            office.start("c")
            self.assertEqual(office.helpful("c"), [])
            office.choose("c", 1)
            self.assertEqual(office.helpful("c"), [("pick", 0, 1), ("pick", 0, 2)])
            self.assert_hopeless(office, "c", lambda: office.pick("c", 0))
            self.assert_hopeless(office, "c", lambda: office.pick("c", 0, place=0))
            office.pick("c", 1)
            self.assertEqual(office.helpful("c"), [("do", 0, (("p", ()),))])
            self.assert_hopeless(office, "c", lambda: office.leave("ann"))

    def test_the_first_open_case(self):
        for make in GUARDED:
            office = check_office(make, ("ann", "bob"))
            for case in ("d", "b", "c", "a"):
                office.start(case)
            office.do("a", "enter", "ann")
            office.choose("a", 1)
            self.assert_hopeless(office, "b", lambda: office.leave("bob"))
            office.do("b", "enter", "ann")
            self.assert_hopeless(office, "b", lambda: office.leave("bob"))
            office.choose("b", 1)
            self.assert_hopeless(office, "c", lambda: office.leave("bob"))
            for case in ("c", "d"):
                office.do(case, "enter", "ann")
                office.choose(case, 1)
            office.leave("bob")
            office.leave("ann")
            self.assertEqual(office.running, ())

    def test_who_leaves_harms_other_cases(self):
        """A person who left may have been the only one for the task of another case."""
        book = Book({"p": [], "q": ["r"]}, {"a": Task(), "b": Task("r", same=["a"])}, ("then", "a", ("any", "b", "a")))
        for make in GUARDED:
            office = make(book, {"ann": "p", "bob": "q"})
            office.start("c")
            office.do("c", "a", "bob")
            office.pick("c", 0)
            self.assertEqual(office.helpful("c"), [("do", 0, (("q", ("a",)),))])
            self.assert_hopeless(office, "c", lambda: office.leave("bob"))
            office.leave("ann")
            office.do("c", "b", "bob")

    def test_other_errors_come_first(self):
        for make in GUARDED:
            office = check_office(make, ("ann", "bob"))
            office.start("c")
            for error, call in ((Clash, lambda: office.start("c")), (InvalidName, lambda: office.start("C")), (NotNow, lambda: office.choose("c", 0)),
                                (UnknownCase, lambda: office.do("d", "enter", "ann")), (UnknownPerson, lambda: office.leave("zz")),
                                (OutOfRange, lambda: office.undo(2))):
                with self.assertRaises(error):
                    call()
            with office.trial():
                with self.assertRaises(InTrial):
                    office.undo()

    def test_more_persons_are_welcome(self):
        for make in GUARDED:
            office = check_office(make, ("ann", "bob"))
            office.start("c")
            office.join("cy", "p")
            office.leave("ann")
            office.undo(2)
            self.assertEqual(list(office.persons), ["ann", "bob"])
            office.redo(2)
            self.assertEqual(list(office.persons), ["bob", "cy"])

    def test_undo_and_redo_are_not_refused(self):
        for make in GUARDED:
            office = check_office(make, ("ann", "bob"))
            office.start("c")
            office.do("c", "enter", "ann")
            office.choose("c", 1)
            office.leave("bob")
            office.undo(4)
            office.redo(4)
            office.undo(2)
            self.assertEqual(office.running, ("c",))

    def test_in_trials(self):
        for make in GUARDED:
            office = check_office(make, ("ann", "bob"))
            office.start("c")
            before = seen(office)
            with self.assertRaises(Hopeless):
                office.attempt(lambda same: (same.join("cy", "p"), same.leave("ann"), same.leave("bob")))
            self.assertEqual(seen(office), before)
            office.attempt(lambda same: (same.join("cy", "p"), same.leave("ann")))
            self.assertEqual(list(office.persons), ["bob", "cy"])
            with office.trial():
                office.do("c", "enter", "bob")
                with self.assertRaises(Hopeless):
                    office.leave("cy")
                office.choose("c", 1)
                office.leave("cy")

    def test_too_many_stands(self):
        for make in GUARDED:
            office = make(book_with(2001), {name: kind for name, kind in zip(("ann", "bob", "cy"), "abc")})
            self.assert_hopeless(office, 2000, lambda: office.start("c"), TooMany)
            office = Office(book_with(2001), {"ann": "a"})
            office.start("c")
            office = LoggedOffice(book_with(2001), {"ann": "a"})
            office.start("c")

    def test_two_thousand_stands(self):
        for make in GUARDED:
            office = make(book_with(2000), {f"p{chr(97 + at)}": "abc"[at % 3] for at in range(12)})
            office.start("c")
            self.assertEqual((office.running, office.helpful("c")), (("c",), []))
            office.choose("c", 0)
            self.assertTrue(office.helpful("c"))

    def test_the_first_case_with_which_something_is_wrong(self):
        """That there are too many stands is told for each case in turn, as that it is hopeless is."""
        tasks = {name: book_with(2001)[name] for name in "xyz"}
        for make in GUARDED:
            office = make(Book(kinds_of("a", "b", "c"), {**tasks, "v": Vote(3)}, ("then", "v", book_with(2001).plan)), {})
            self.assert_hopeless(office, 2000, lambda: office.start("c"), TooMany)

    def test_a_helpful_move_can_be_done(self):
        for make in GUARDED:
            book = book_with(2000)
            office = make(book, {f"p{chr(97 + at)}": "abc"[at % 3] for at in range(5)})
            office.start("c")
            office.choose("c", 0)
            for _ in range(30):
                if not office.running:
                    break
                found = office.helpful("c")
                self.assertTrue(found)
                move = found[-1]
                if move[0] == "pick":
                    office.pick("c", move[2], place=move[1])
                else:
                    persons = []
                    for kind, names in move[2]:
                        persons.append([person for person in office.persons if office.persons[person] == kind and person not in persons and
                                        names == tuple(name for name in book.remembered if person in office.doers("c", name))][0])
                    plan = office.stand("c")[0]
                    for task in book.names:
                        try:
                            office.do("c", task, *persons, place=move[1])
                            break
                        except NotNow:
                            pass
                    self.assertNotEqual(office.stand("c")[0], plan)
            self.assertEqual(office.running, ())

    def test_time(self):
        """Ten cases and twenty persons of a large book are answered in seconds."""
        begun = time.time()
        office = GuardedLoggedOffice(book_with(2000), {f"p{chr(97 + at)}": "abc"[at % 3] for at in range(20)})
        for at in range(10):
            office.start(f"c{chr(97 + at)}")
        for case in office.cases:
            office.choose(case, 0)
            office.do(case, "x", "pa", "pb", place=0)
            office.do(case, "y", "pc", "pd", place=0)
        for person in ("pa", "pd", "pe"):
            office.leave(person)
        self.assertEqual(len(office.log), 43)
        self.assertTrue(all(office.helpful(case) for case in office.cases))
        self.assertLess(time.time() - begun, 60)


class TestLogged(unittest.TestCase):
    def test_entries(self):
        book = Book({"p": []}, {"a": Task(), "v": Vote(2)}, ("then", ("either", "a", DONE), ("beside", "a", ("any", "v", "a"))))
        for make in LOGGED:
            office = make(book, {"ann": "p", "bob": "p"})
            self.assertEqual(office.log, ())
            office.start("c")
            office.choose("c", 1)
            office.pick("c", 0)
            office.do("c", "v", "bob", "ann")
            office.do("c", "a", "ann", place=None)
            office.start("d")
            office.choose("d", 1)
            office.pick("d", 1, place=1)
            office.do("d", "a", "bob", place=1)
            office.join("cy", "p")
            office.leave("ann")
            office.undo()
            office.undo(2)
            office.redo(count=3)
            self.assertEqual(office.log, (
                ("start", "c"), ("choose", "c", 1), ("pick", "c", 1, 0), ("do", "c", 1, "v", ("bob", "ann")), ("do", "c", 0, "a", ("ann",)),
                ("start", "d"), ("choose", "d", 1), ("pick", "d", 1, 1), ("do", "d", 1, "a", ("bob",)), ("join", "cy", "p"), ("leave", "ann"),
                ("undo", 1), ("undo", 2), ("redo", 3)))
            self.assertIs(office.log.__class__, tuple)
            for entry in office.log:
                self.assertIs(entry.__class__, tuple)

    def test_refused_calls_leave_no_entry(self):
        for make in LOGGED:
            office = check_office(make, ("ann", "bob"))
            office.start("c")
            office.do("c", "enter", "ann")
            office.choose("c", 0)
            log = office.log
            for error, call in ((Clash, lambda: office.start("c")), (NotNow, lambda: office.choose("c", 0)), (NotNow, lambda: office.pick("c", 0)),
                                (DidLast, lambda: office.do("c", "check", "ann")), (Clash, lambda: office.join("ann", "p")),
                                (UnknownPerson, lambda: office.leave("zz")), (OutOfRange, lambda: office.undo(4)), (OutOfRange, office.redo)):
                with self.assertRaises(error):
                    call()
                self.assertEqual(office.log, log)
        office = check_office(GuardedLoggedOffice, ("ann", "bob"))
        office.start("c")
        with self.assertRaises(Hopeless):
            office.leave("ann")
        self.assertEqual(office.log, (("start", "c"),))

    def test_questions_leave_no_entry(self):
        for make in LOGGED:
            office = check_office(make)
            office.start("c")
            for _ in (office.book, office.persons, office.staff, office.cases, office.running, office.stand("c"), office.doers("c", "enter"),
                      office.undoable, office.redoable, office.depth, office.trial()):
                self.assertEqual(office.log, (("start", "c"),))

    def test_blocks(self):
        for make in LOGGED:
            office = check_office(make)
            with office.trial():
                office.start("a")
                self.assertEqual(office.log, (("start", "a"),))
            self.assertEqual(office.log, (("start", "a"), ("trial", False)))
            trial = office.trial()
            with trial:
                trial.keep()
                office.start("b")
            self.assertEqual(office.log[2:], (("start", "b"), ("trial", True)))
            trial = office.trial()
            with trial:
                trial.keep()
            self.assertEqual(office.log[4:], (("trial", True),))
            trial = office.trial()
            with self.assertRaises(CommandError):
                with trial:
                    trial.keep()
                    office.start("d")
                    raise CommandError(1)
            self.assertEqual(office.log[5:], (("start", "d"), ("trial", False)))
            office.attempt(lambda same: same.start("e"))
            office.tried(lambda same: same.start("f"))
            self.assertEqual(office.log[7:], (("start", "e"), ("trial", True), ("start", "f"), ("trial", False)))
            self.assertIs(office.log[-1][1], False)
            self.assertIs(office.log[-3][1], True)
            with self.assertRaises(InvalidName):
                office.attempt(lambda same: same.start(""))
            self.assertEqual(office.log[11:], (("trial", False),))
            office.attempt(lambda same: same.tried(lambda again: again.leave("ann")))
            self.assertEqual(office.log[12:], (("leave", "ann"), ("trial", False), ("trial", True)))
            with self.assertRaises(InTrial):
                office.tried(lambda same: same.undo())
            self.assertEqual(office.log[15:], (("trial", False),))

    def test_nothing_is_removed(self):
        for make in LOGGED:
            office = check_office(make)
            office.start("c")
            office.undo()
            office.start("d")
            self.assertEqual(office.log, (("start", "c"), ("undo", 1), ("start", "d")))

    def test_each_office_has_its_own(self):
        one, other = check_office(LoggedOffice), check_office(LoggedOffice)
        one.start("c")
        self.assertEqual((len(one.log), other.log), (1, ()))

    def test_offices_without_a_log(self):
        for make in (Office, GuardedOffice):
            office = check_office(make)
            office.tried(lambda same: same.start("c"))
            self.assertFalse(hasattr(office, "log"))


class TestHelpful(unittest.TestCase):
    def test_order(self):
        book = Book(kinds_of("p", "q"), {"a": Task(other=["a"]), "b": Task()}, ("beside", ("any", "a", "b"), "b"))
        for make in GUARDED:
            office = make(book, {"ann": "p", "bob": "q"})
            office.start("c")
            self.assertEqual(office.helpful("c"), moves(book, office.stand("c")))
            self.assertIsNot(office.helpful("c"), office.helpful("c"))
            office.leave("bob")
            self.assertEqual(office.helpful("c"), [("pick", 0, 0), ("pick", 0, 1), ("do", 1, (("p", ()),))])

    def test_what_cannot_be_made(self):
        book = Book(kinds_of("p", "q"), {"v": Vote(2)}, "v")
        for make in GUARDED:
            office = make(book, {"ann": "p", "bob": "q"})
            office.start("c")
            self.assertEqual(office.helpful("c"), [("do", 0, (("p", ()), ("q", ())))])


if __name__ == "__main__":
    unittest.main()
