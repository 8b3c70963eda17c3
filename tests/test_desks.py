import unittest

from fewhands import desks as module
from fewhands.books import Book
from fewhands.desks import Desk, answers
from fewhands.errors import (Clash, CommandError, DidLast, Hopeless, InTrial, InvalidName, NotNow, OutOfRange, TooMany, UnknownCase,
                             UnknownKind, UnknownPerson, WrongNumber)
from fewhands.missing import outlasted, spared
from fewhands.offices import GuardedLoggedOffice, GuardedOffice, LoggedOffice, Office
from fewhands.plans import plan_text
from fewhands.staffs import Staff
from fewhands.tasks import HandOn, Task, Vote
from office_model import seen
from samples import DONE, check_book, kinds_of, tasks_of
from test_offices import check_office
from test_stands import book_with
from values import many_kinds


class DeskCase(unittest.TestCase):
    def setUp(self):
        self.office = check_office()
        self.desk = Desk(self.office)

    def told(self, *lines):
        return [self.desk.run(line) for line in lines]

    def assert_error(self, error, line, *fields):
        before = seen(self.office)
        for call in (self.desk.run, self.desk):
            with self.assertRaises(error, msg=repr(line)) as caught:
                call(line)
            self.assertEqual(list(vars(caught.exception).values()), list(fields))
            self.assertEqual(seen(self.office), before)

    def assert_no_line(self, line):
        before = seen(self.office)
        for call in (self.desk.run, self.desk):
            with self.assertRaises(CommandError, msg=repr(line)) as caught:
                call(line)
            self.assertIs(caught.exception.value, line)
        self.assertEqual(seen(self.office), before)


class TestActions(DeskCase):
    def test_a_whole_case(self):
        self.assertIs(self.desk.office, self.office)
        self.assertEqual(self.told("start c", "do c enter ann", "choose c 0", "do c check bob"), ["ok"] * 4)
        self.assertEqual((self.office.cases, self.office.running), (("c",), ()))
        self.assertEqual(self.told("undo", "undo", "redo", "left c"), ["ok", "ok", "ok", "check"])
        self.assertEqual(self.told("join dan p", "leave ann", "staff"), ["ok", "ok", "p 3"])

    def test_calling_the_desk(self):
        self.assertEqual([self.desk(line) for line in ("start c", "running", "do c enter ann")], ["ok", "c", "ok"])
        self.assertEqual(self.desk.run(line="running"), "c")

    def test_picks(self):
        self.office = Office(Book({"p": []}, tasks_of("a", "b"), ("any", *("b",) * 12, "a", DONE)), {"ann": "p"})
        self.desk = Desk(self.office)
        self.assertEqual(self.told("start c", "try pick c 12", "pick c 10", "left c", "do c b ann", "left c"), ["ok", "ok", "ok", "b", "ok", "then()"])

    def test_no_and_several_persons(self):
        self.office = Office(Book({"p": []}, {"v": Vote(3)}, "v"), {name: "p" for name in ("ann", "bob", "cy")})
        self.desk = Desk(self.office)
        self.desk("start c")
        self.assert_error(WrongNumber, "do c v", 3)
        self.assert_error(WrongNumber, "do c v ann", 3)
        self.assertEqual(self.desk("do c v cy ann bob"), "ok")

    def test_errors_of_what_it_does(self):
        self.desk("start c")
        for error, line, *fields in (
            (Clash, "start c", "c"), (InvalidName, "start C", "C"), (InvalidName, "start a\tb", "a\tb"), (InvalidName, "start ninechars", "ninechars"),
            (UnknownCase, "choose d 0", "d"), (NotNow, "choose c 0", 0), (NotNow, "choose c " + "9" * 30, int("9" * 30)), (NotNow, "pick c 7", None),
            (UnknownCase, "pick D 0", "D"), (UnknownCase, "do d x", "d"), (NotNow, "do c check ann", "check"), (NotNow, "do c 0 ann", "0"),
            (UnknownPerson, "do c enter ann zz", "zz"), (WrongNumber, "do c enter", 1), (Clash, "join ann q", "ann"), (UnknownKind, "join dan q", "q"),
            (InvalidName, "join D p", "D"), (UnknownPerson, "leave dan", "dan"), (UnknownCase, "left d", "d"), (UnknownCase, "doers d enter", "d"),
            (OutOfRange, "redo", 1), (UnknownCase, "left \n", "\n"), (UnknownCase, "left try", "try"), (UnknownPerson, "leave \u00e9", "\u00e9"),
        ):
            self.assert_error(error, line, *fields)
        self.assertEqual(self.desk("undo"), "ok")
        self.assert_error(OutOfRange, "undo", 1)


class TestQuestions(DeskCase):
    def test_running(self):
        self.assertEqual(self.told("running", "start c", "start a", "running"), ["-", "ok", "ok", "a c"])
        self.told("do a enter ann", "choose a 1")
        self.assertEqual(self.desk("running"), "c")

    def test_doers(self):
        self.office = Office(Book({"p": []}, {"v": Vote(2), "h": HandOn("w"), "x": Task(other=["v", "w"])}, ("then", "v", "h", "x")),
                             {name: "p" for name in ("ann", "bob", "cy")})
        self.desk = Desk(self.office)
        self.assertEqual(self.told("start c", "doers c v", "do c v cy ann", "doers c v", "doers c w", "doers c zz", "doers c C"),
                         ["ok", "-", "ok", "ann cy", "-", "-", "-"])
        self.assertEqual(self.told("do c h bob", "doers c w"), ["ok", "bob"])

    def test_left(self):
        self.desk("start c")
        self.assertEqual(self.desk("left c"), "then(enter, either(check, then()))")
        self.assertEqual(self.desk("left c"), plan_text(self.office.stand("c")[0]))
        self.told("do c enter ann")
        self.assertEqual(self.desk("left c"), "either(check, then())")
        self.told("choose c 1")
        self.assertEqual(self.desk("left c"), "then()")

    def test_staff(self):
        self.office = Office(Book(kinds_of("q", "p", "b"), {}, DONE), {})
        self.desk = Desk(self.office)
        self.assertEqual(self.told("staff", "join ann q", "join bob b", "join cy q", "staff", "leave bob", "staff"),
                         ["-", "ok", "ok", "ok", "b 1 q 2", "ok", "q 2"])

    def test_numbers(self):
        self.assertEqual(self.told("fewest", "smallest", "spared", "outlasted"), ["2", "1", "1", "1"])
        self.assertEqual(self.told("leave cy", "spared", "leave bob", "spared", "outlasted", "fewest", "smallest"), ["ok", "0", "ok", "-", "-", "2", "1"])
        for persons in range(6):
            office = Office(Book({"p": []}, {"a": Vote(2), "b": Task(same=["a"])}, ("then", "a", "b")), {"abcdef"[at]: "p" for at in range(persons)})
            for line, told in (("spared", spared(office.book, office.staff)), ("outlasted", outlasted(office.book, office.staff))):
                self.assertEqual(Desk(office)(line), "-" if told is None else str(told))
        office = Office(Book({"p": []}, {"a": Task(same=["a"])}, "a"), {"ann": "p"})
        self.assertEqual([Desk(office)(line) for line in ("fewest", "smallest", "spared", "outlasted")], ["-"] * 4)
        office = Office(Book({"p": []}, {}, DONE), {})
        self.assertEqual([Desk(office)(line) for line in ("fewest", "smallest", "spared", "outlasted")], ["0"] * 4)

    def test_too_many_stands(self):
        self.office = Office(book_with(2001), {"ann": "a"})
        self.desk = Desk(self.office)
        for line in ("fewest", "smallest", "spared", "outlasted"):
            self.assert_error(TooMany, line, 2000)
            self.assert_error(TooMany, "try " + line, 2000)
        self.assertEqual(self.told("start c", "running"), ["ok", "c"])


class TestLines(DeskCase):
    def test_wrong_lines(self):
        self.desk("start c")
        for line in ("", " ", "start", "start ", " start c", "start  c", "start c ", "start c d", "Start c", "START c", "choose", "choose c", "choose c 0 0",
                     "choose c  0", "choose 0", "pick c", "pick c 0 0", "pick c x", "do", "do c", "do  c enter", "do c  enter", "do c enter ", "do c enter  ann",
                     "do c enter ann ", "join", "join ann", "join ann p p", "leave", "leave ann bob", "undo 1", "undo ", " undo", "redo 1", "running c",
                     "running ", "doers", "doers c", "doers c enter ann", "left", "left c c", "staff p", "fewest 1", "smallest ", "spared p 1", "outlasted 1",
                     "trial", "keep", "stand c", "helpful c", "log", "ok", "-", "start\tc", "start\nc", "undo\n", "running\n", "\nrunning", "running\t"):
            self.assert_no_line(line)
            self.assert_no_line("try " + line)

    def test_indexes(self):
        self.told("start c", "do c enter ann")
        for index in ("00", "01", "-1", "+1", "0x1", "1.0", "1e0", "1_0", "\u0661", "\u00b2", "one", "1\n", "\t1", "", "9" * 31, "1" + "0" * 30, "0" * 31,
                      "\uff11", "--1", "1-", "10 ", "a1", "1a"):
            for word in ("choose", "pick"):
                self.assert_no_line(f"{word} c {index}")
        for index in ("2", "10", "9" * 30, "1" + "0" * 29):
            self.assert_error(NotNow, f"choose c {index}", int(index))
        self.assertEqual(self.desk("choose c 0"), "ok")

    def test_names_with_any_signs(self):
        """Where names are told, any characters may stand but spaces: what is wrong then is the name, not the line."""
        for name in ("\t", "\n", "a\tb", "\u00e9", "(", ",", "-", "0", "\u00a0", "\u2003", "\r", "\x00", "try", "ok", "C", "verylongname" * 9):
            self.assert_error(InvalidName, "start " + name, name) if name not in ("try", "ok") else None
            self.assert_error(UnknownCase, "left " + name, name)
            self.assert_error(UnknownCase, f"do {name} {name} {name}", name)
            self.assert_error(UnknownPerson, "leave " + name, name)
            self.assert_error(UnknownKind, f"join dan {name}", name)

    def test_other_values(self):
        for value in many_kinds() + [b"start c", ["start c"], ("start", "c"), None, 7, ["start", "c"]]:
            self.assert_no_line(value)

    def test_words_of_commands_as_names(self):
        self.assertEqual(self.told("start start", "start try", "left start", "running"), ["ok", "ok", "then(enter, either(check, then()))", "start try"])
        self.assertEqual(self.told("join undo p", "do start enter undo", "doers start enter", "try leave undo"), ["ok", "ok", "undo", "ok"])


class TestTry(DeskCase):
    def test_each_line(self):
        self.desk("start c")
        before = seen(self.office)
        for line, told in (("start d", "ok"), ("do c enter ann", "ok"), ("join dan p", "ok"), ("leave ann", "ok"), ("running", "c"), ("doers c enter", "-"),
                           ("left c", "then(enter, either(check, then()))"), ("staff", "p 3"), ("fewest", "2"), ("smallest", "1"), ("spared", "1"),
                           ("outlasted", "1")):
            self.assertEqual(self.desk("try " + line), told)
            self.assertEqual(seen(self.office), before)
        self.desk("do c enter ann")
        before = seen(self.office)
        self.assertEqual(self.desk("try choose c 1"), "ok")
        self.assertEqual(seen(self.office), before)

    def test_errors(self):
        self.desk("start c")
        self.assert_error(InTrial, "try undo")
        self.assert_error(InTrial, "try redo")
        self.assert_error(Clash, "try start c", "c")
        self.assert_error(UnknownCase, "try left d", "d")

    def test_no_lines(self):
        for line in ("try", "try ", "try try", "try try running", "try  running", " try running", "try running ", "Try running", "try try try running",
                     "try x", "try choose c 01", "try undo 1", "running try"):
            self.assert_no_line(line)

    def test_the_log(self):
        office = check_office(LoggedOffice)
        desk = Desk(office)
        desk("try start c")
        self.assertEqual(office.log, (("start", "c"), ("trial", False)))
        with self.assertRaises(CommandError):
            desk("try start c d")
        with self.assertRaises(CommandError):
            desk("try try start c")
        self.assertEqual(len(office.log), 2)
        with self.assertRaises(InTrial):
            desk("try undo")
        self.assertEqual(office.log[2:], (("trial", False),))


class TestGuardedDesks(unittest.TestCase):
    def test_hopeless(self):
        for make in (GuardedOffice, GuardedLoggedOffice):
            office = check_office(make, ("ann", "bob"))
            desk = Desk(office)
            desk("start c")
            for line in ("leave ann", "try leave ann"):
                with self.assertRaises(Hopeless) as caught:
                    desk(line)
                self.assertEqual(caught.exception.case, "c")
            self.assertEqual(office.staff, Staff(p=2))


class TestAnswers(DeskCase):
    def test_one_for_undo(self):
        lines = ["start c", "do c enter ann", "left c", "staff", "try choose c 0", "choose c 1", "running"]
        copy = list(lines)
        self.assertEqual(answers(self.office, lines), ["ok", "ok", "either(check, then())", "p 3", "ok", "ok", "-"])
        self.assertEqual(lines, copy)
        self.assertEqual((self.office.undoable, self.office.cases, self.office.depth), (1, ("c",), 0))
        self.office.undo()
        self.assertEqual(self.office.cases, ())
        self.office.redo()
        self.assertEqual(self.office.running, ())
        self.assertEqual(answers(office=self.office, lines=("running", "staff")), ["-", "p 3"])
        self.assertEqual(self.office.undoable, 1)
        self.assertEqual(answers(self.office, []), [])

    def test_errors_go_on(self):
        self.office.start("x")
        before = seen(self.office)
        for lines, error, fields in (
            (["start c", "start c"], Clash, ["c"]), (["start c", "undo"], InTrial, []), (["start c", "redo"], InTrial, []),
            (["start c", "start  d"], CommandError, ["start  d"]), (["start c", "do c enter ann", "choose c 0", "do c check ann"], DidLast, ["ann", "enter"]),
            (["leave ann", "try try running"], CommandError, ["try try running"]),
        ):
            with self.assertRaises(error) as caught:
                answers(self.office, lines)
            self.assertEqual(list(vars(caught.exception).values()), fields)
            self.assertEqual(seen(self.office), before)

    def test_lines_that_are_no_strings(self):
        for value in many_kinds():
            with self.assertRaises(CommandError) as caught:
                answers(self.office, ["start c", value])
            self.assertIs(caught.exception.value, value)
            self.assertEqual(self.office.cases, ())

    def test_the_log(self):
        office = check_office(LoggedOffice)
        answers(office, ["start c", "try start d"])
        self.assertEqual(office.log, (("start", "c"), ("start", "d"), ("trial", False), ("trial", True)))
        with self.assertRaises(Clash):
            answers(office, ["start c"])
        self.assertEqual(office.log[4:], (("trial", False),))

    def test_within_a_trial(self):
        with self.office.trial():
            self.assertEqual(answers(self.office, ["start c", "running"]), ["ok", "c"])
        self.assertEqual((self.office.cases, self.office.undoable), ((), 0))

    def test_names_stand_in_their_file(self):
        for name in ("Desk", "answers"):
            self.assertEqual(getattr(module, name).__module__, "fewhands.desks")
        self.assertEqual(Desk(office=self.office).office, self.office)


if __name__ == "__main__":
    unittest.main()
