import itertools
import unittest

from fewhands import offices as module
from fewhands.books import Book
from fewhands.errors import (Clash, DidLast, DidNotLast, InTrial, InvalidName, LacksRole, NotNow, OutOfRange, Twice, UnknownCase,
                             UnknownKind, UnknownPerson, WrongNumber)
from fewhands.offices import GuardedLoggedOffice, GuardedOffice, LoggedOffice, Office
from fewhands.stands import first_stand, moves
from fewhands.staffs import Staff
from fewhands.tasks import HandOn, Reopen, Task, Vote
from office_model import seen
from samples import DONE, check_book, kinds_of, tasks_of
from values import many_kinds

EVERY = (Office, GuardedOffice, LoggedOffice, GuardedLoggedOffice)
BRANCH = ("either", "check", DONE)


def check_office(make=Office, persons=("ann", "bob", "cy")):
    return make(check_book(), {person: "p" for person in persons})


class OfficeCase(unittest.TestCase):
    def assert_error(self, office, error, *fields, call):
        """The call is refused with an error with these very fields, and nothing is changed."""
        before = seen(office)
        with self.assertRaises(error, msg=repr(fields)) as caught:
            call()
        self.assertIs(caught.exception.__class__, error)
        told = list(vars(caught.exception).values())
        self.assertEqual(len(told), len(fields))
        for one, other in zip(told, fields):
            self.assertIs(one, other)
        self.assertEqual(seen(office), before)


class TestCreation(OfficeCase):
    def test_properties(self):
        for make in EVERY:
            office = make(check_book(), {"bob": "p", "ann": "p"})
            self.assertEqual(list(office.persons.items()), [("ann", "p"), ("bob", "p")])
            self.assertEqual((office.staff, office.cases, office.running), (Staff(p=2), (), ()))
            self.assertEqual((office.undoable, office.redoable, office.depth), (0, 0, 0))
            self.assertEqual(office.book, check_book())
            self.assertIsInstance(office, Office)
        for make, told in zip(EVERY, ((False, False), (True, False), (False, True), (True, True))):
            office = make(check_book(), {})
            self.assertEqual((isinstance(office, GuardedOffice), isinstance(office, LoggedOffice)), told)
            self.assertEqual((hasattr(office, "helpful"), hasattr(office, "log")), told)

    def test_only_equal_to_itself(self):
        for make in EVERY:
            office, other = check_office(make), check_office(make)
            self.assertTrue(office == office)
            self.assertFalse(office == other)

    def test_copies(self):
        book, persons = check_book(), {"ann": "p"}
        for make in EVERY:
            office = make(book, persons)
            office.book.plan = DONE
            office.book["enter"] = Vote(3)
            office.persons["zoe"] = "p"
            self.assertEqual((office.book, office.persons), (check_book(), {"ann": "p"}))
            self.assertIsNot(office.book, office.book)
        office = Office(book, persons)
        book.plan = DONE
        persons["bob"] = "p"
        office.start("c")
        self.assertEqual((office.stand("c"), office.persons), (first_stand(check_book()), {"ann": "p"}))

    def test_wrong_persons(self):
        for make in EVERY:
            for persons in [None, [], (), "ann", 1, {"Ann": "p"}, {"ann": "p", "": "p"}, {"ann": "p", None: "p"}, {1: "p"}, {("ann",): "p"},
                            {"ninechars": "p"}, [("ann", "p")], Staff(p=1), {b"ann": "p"}, {"Ann": "zz"}] + many_kinds():
                if persons in ({}, {"p": 1}) and isinstance(persons, dict):
                    continue
                with self.assertRaises(InvalidName, msg=repr(persons)) as caught:
                    make(check_book(), persons)
                self.assertIs(caught.exception.value, persons)

    def test_unknown_kinds(self):
        for make in EVERY:
            for kind in ["q", "", None, True, 1, ("p",), ["p"], {"p": 1}, b"p"] + many_kinds():
                if kind != "p":
                    for persons in ({"ann": kind}, {"cy": "zz", "bob": kind, "ann": "p"}):
                        with self.assertRaises(UnknownKind, msg=repr(kind)) as caught:
                            make(check_book(), persons)
                        self.assertIs(caught.exception.value, kind)

    def test_arguments_by_name(self):
        for make in EVERY:
            office = make(persons={"ann": "p", "bob": "p", "cy": "p"}, book=check_book())
            office.start(case="c")
            office.do("c", "enter", "ann", place=0)
            self.assertEqual(office.doers(name="enter", case="c"), ("ann",))
            office.choose(index=0, case="c")
            self.assertEqual(office.stand(case="c")[0], "check")
            office.join("dan", "p")
            office.leave(person="dan")
            office.undo(count=2)
            office.redo(count=1)
            self.assertEqual(office.attempt(action=len_of), 4)
            self.assertEqual(office.tried(action=len_of), 4)
        office = Office(Book({"p": []}, tasks_of("a"), ("any", "a", DONE)), {})
        office.start("c")
        office.pick(index=1, place=0, case="c")
        with self.assertRaises(TypeError):
            office.pick("c", 1, 0)

    def test_classes_stand_in_their_file(self):
        for name in ("Office", "GuardedOffice", "LoggedOffice", "GuardedLoggedOffice"):
            self.assertEqual(getattr(module, name).__module__, "fewhands.offices")


def len_of(office):
    return len(office.persons)


class TestActions(OfficeCase):
    def test_a_whole_case(self):
        for make in EVERY:
            office = check_office(make)
            self.assertIsNone(office.start("c"))
            self.assertEqual((office.cases, office.running), (("c",), ("c",)))
            self.assertEqual(office.stand("c"), first_stand(check_book()))
            self.assertIsNone(office.do("c", "enter", "bob"))
            self.assertEqual(office.stand("c"), (BRANCH, (("p", ("enter",)),)))
            self.assertIsNone(office.choose("c", 0))
            self.assertIsNone(office.do("c", "check", "ann"))
            self.assertEqual(office.stand("c"), (DONE, (("p", ("enter",)),)))
            self.assertEqual((office.cases, office.running), (("c",), ()))
            self.assertEqual(office.undoable, 4)

    def test_cases_in_ascending_order(self):
        office = check_office()
        for case in ("z", "a", "m"):
            office.start(case)
        self.assertEqual((office.cases, office.running), (("a", "m", "z"), ("a", "m", "z")))
        office.do("m", "enter", "ann")
        office.choose("m", 1)
        self.assertEqual((office.cases, office.running), (("a", "m", "z"), ("a", "z")))

    def test_each_person_may_act_in_all_cases(self):
        office = check_office(persons=("ann",))
        for case in ("x", "y"):
            office.start(case)
            office.do(case, "enter", "ann")
        self.assertEqual([office.doers(case, "enter") for case in ("x", "y")], [("ann",), ("ann",)])

    def test_start(self):
        office = check_office()
        office.start("c")
        self.assert_error(office, Clash, "c", call=lambda: office.start("c"))
        for value in many_kinds() + ["Ann", "", "ninechars", "a b"]:
            if value not in ("p", "self"):
                self.assert_error(office, InvalidName, value, call=lambda: office.start(value))
        office.start("p")

    def test_unknown_cases_ahead_of_all(self):
        office = check_office()
        office.start("c")
        for value in many_kinds() + ["d", "C", ["c"], ("c",), b"c"]:
            for call in (lambda: office.stand(value), lambda: office.doers(value, "enter"), lambda: office.doers(value, None), lambda: office.choose(value, None),
                         lambda: office.pick(value, None), lambda: office.pick(value, None, place="x"), lambda: office.do(value, None),
                         lambda: office.do(value, "enter", "zz", place=9), lambda: office.do(value, "enter", "ann")):
                self.assert_error(office, UnknownCase, value, call=call)
        for make in (GuardedOffice, GuardedLoggedOffice):
            guarded = check_office(make)
            for value in many_kinds():
                self.assert_error(guarded, UnknownCase, value, call=lambda: guarded.helpful(value))

    def test_choose(self):
        office = Office(Book({"p": []}, tasks_of("a"), ("then", ("either", DONE, "a", ("then", "a", "a")), ("again", "a"), "a")), {"ann": "p"})
        office.start("c")
        for value in many_kinds() + [3, -1, "0", True, False, None, (0,)]:
            if value.__class__ is not int or not 0 <= value <= 2:
                self.assert_error(office, NotNow, value, call=lambda: office.choose("c", value))
        office.choose("c", 1)
        for value in (0, 1, 2, None):
            self.assert_error(office, NotNow, value, call=lambda: office.choose("c", value))
        office.do("c", "a", "ann")
        self.assert_error(office, NotNow, 2, call=lambda: office.choose("c", 2))
        office.choose("c", 1)
        office.do("c", "a", "ann")
        office.choose("c", 0)
        office.do("c", "a", "ann")
        for value in (0, 1, None):
            self.assert_error(office, NotNow, value, call=lambda: office.choose("c", value))

    def test_pick(self):
        book = Book({"p": []}, tasks_of("a", "b"), ("beside", ("then", "a", ("any", "a", DONE)), ("any", DONE, "b", ("then", "b", "b"))))
        office = Office(book, {"ann": "p"})
        office.start("c")
        for place in many_kinds() + [0, 2, -1, True, False, "1", (1,), 10 ** 30]:
            if place is not None and (place.__class__ is not int or place != 1):
                for index in (0, 7, None):
                    self.assert_error(office, NotNow, place, call=lambda: office.pick("c", index, place=place))
        for index in many_kinds() + [3, -1, True, False, None, "0"]:
            if index.__class__ is not int or not 0 <= index <= 2:
                for place in (None, 1):
                    self.assert_error(office, NotNow, index, call=lambda: office.pick("c", index, place=place))
        with office.trial():
            office.pick("c", 2)
            self.assertEqual(office.stand("c")[0], ("beside", ("then", "a", ("any", "a", DONE)), ("then", "b", "b")))
        with office.trial():
            office.do("c", "a", "ann")
            office.pick("c", 1)
            self.assertEqual(office.stand("c")[0], ("any", DONE, "b", ("then", "b", "b")))
        office.do("c", "a", "ann")
        office.pick("c", 1, place=1)
        self.assertEqual(office.stand("c")[0], ("beside", ("any", "a", DONE), "b"))
        self.assert_error(office, NotNow, 1, call=lambda: office.pick("c", 0, place=1))
        office.pick("c", 1, place=None)
        self.assert_error(office, NotNow, None, call=lambda: office.pick("c", 0))
        self.assert_error(office, NotNow, 0, call=lambda: office.pick("c", 0, place=0))
        office.do("c", "b", "ann")
        self.assert_error(office, NotNow, None, call=lambda: office.pick("c", 0))

    def test_no_picks_at_the_turn_of_the_world(self):
        office = Office(Book({"p": []}, tasks_of("a"), ("beside", ("any", "a", DONE), ("either", "a", DONE))), {"ann": "p"})
        office.start("c")
        self.assert_error(office, NotNow, None, call=lambda: office.pick("c", 0))
        self.assert_error(office, NotNow, 0, call=lambda: office.pick("c", 0, place=0))
        self.assert_error(office, NotNow, "a", call=lambda: office.do("c", "a", "ann"))
        office.choose("c", 0)
        office.do("c", "a", "ann", place=1)

    def test_places_of_deeds(self):
        book = Book({"p": []}, tasks_of("a", "b"), ("beside", ("then", "a", "b"), ("then", "a", "a", ("any", "b", DONE))))
        office = Office(book, {"ann": "p"})
        office.start("c")
        with office.trial():
            office.do("c", "a", "ann")
            self.assertEqual(office.stand("c")[0], ("beside", "b", ("then", "a", "a", ("any", "b", DONE))))
            office.do("c", "a", "ann")
            self.assertEqual(office.stand("c")[0], ("beside", "b", ("then", "a", ("any", "b", DONE))))
        office.do("c", "a", "ann", place=1)
        self.assertEqual(office.stand("c")[0], ("beside", ("then", "a", "b"), ("then", "a", ("any", "b", DONE))))
        for place in many_kinds() + [True, False, -1, 2, "0", (0,), 10 ** 30]:
            if place is not None and (place.__class__ is not int or place not in (0, 1)):
                self.assert_error(office, NotNow, "a", call=lambda: office.do("c", "a", "ann", place=place))
        for task in many_kinds() + ["b", "A", "any", ("any", "b", DONE), ["a"], None]:
            for place in (None, 0, 1, 7, "x"):
                self.assert_error(office, NotNow, task, call=lambda: office.do("c", task, "zz", "zz", place=place))
        office.do("c", "a", "ann", place=1)
        b = "b"
        self.assert_error(office, NotNow, b, call=lambda: office.do("c", b, "ann"))
        self.assert_error(office, NotNow, b, call=lambda: office.do("c", b, "ann", place=1))
        a = "a"
        self.assert_error(office, NotNow, a, call=lambda: office.do("c", a, "ann", place=1))

    def test_a_task_with_the_name_of_a_plan(self):
        office = Office(Book({"p": []}, tasks_of("any", "then"), ("then", "any", "then")), {"ann": "p"})
        office.start("c")
        self.assert_error(office, NotNow, None, call=lambda: office.pick("c", 0))
        office.do("c", "any", "ann")
        office.do("c", "then", "ann")
        self.assertEqual(office.running, ())

    def test_errors_of_deeds_in_order(self):
        kinds = {"p": ["r"], "q": []}
        tasks = {"s": Vote(2), "u": Task(), "t": Task("r", many=2, other=["u"], same=["s", "w"]), "w": Task()}
        office = Office(Book(kinds, tasks, ("then", "s", "u", "t")), {"ann": "p", "bob": "q", "cy": "p", "dan": "p"})
        office.start("c")
        office.do("c", "s", "ann", "bob")
        office.do("c", "u", "cy")

        def do(*persons, place=None):
            return lambda: office.do("c", "t", *persons, place=place)
        for value in many_kinds() + ["zz", "Ann", ["ann"], ("ann",)]:
            self.assert_error(office, UnknownPerson, value, call=do("ann", "ann", value, "yy"))
            self.assert_error(office, UnknownPerson, value, call=do(value))
            self.assert_error(office, UnknownPerson, value, call=do("bob", "ann", "cy", value))
        self.assert_error(office, Twice, "bob", call=do("ann", "bob", "bob", "ann"))
        self.assert_error(office, Twice, "bob", call=do("bob", "bob"))
        for persons in ((), ("bob",), ("ann", "bob", "cy")):
            self.assert_error(office, WrongNumber, 2, call=do(*persons))
        self.assert_error(office, LacksRole, "bob", call=do("bob", "cy"))
        self.assert_error(office, DidLast, "cy", "u", call=do("cy", "bob"))
        self.assert_error(office, DidNotLast, "dan", "s", call=do("dan", "cy"))
        self.assert_error(office, DidNotLast, "ann", "w", call=do("ann", "bob"))
        self.assert_error(office, DidNotLast, "ann", "w", call=do("ann", "cy"))

    def test_first_names_in_ascending_order(self):
        tasks = {"a": Task(takes=["z", "m", "b"]), "t": Task(other=["z", "m", "b"]), "s": Task(same=["z", "m", "b"])}
        office = Office(Book({"p": []}, tasks, ("then", "a", ("beside", "t", "s"))), {"ann": "p", "bob": "p"})
        office.start("c")
        office.do("c", "a", "ann")
        self.assert_error(office, DidLast, "ann", "b", call=lambda: office.do("c", "t", "ann"))
        self.assert_error(office, DidNotLast, "bob", "b", call=lambda: office.do("c", "s", "bob"))
        office.do("c", "s", "ann")
        office.do("c", "t", "bob")

    def test_did_last_ahead_of_did_not_last(self):
        office = Office(Book({"p": []}, {"z": Task(), "t": Task(other=["z"], same=["a"])}, ("then", "z", "t")), {"ann": "p"})
        office.start("c")
        office.do("c", "z", "ann")
        self.assert_error(office, DidLast, "ann", "z", call=lambda: office.do("c", "t", "ann"))

    def test_persons_in_any_order(self):
        for many in (1, 2, 3):
            for persons in itertools.permutations(("ann", "bob", "cy"), many):
                office = Office(Book({"p": []}, {"v": Task(many=many), "x": Task(other=["v"])}, ("then", "v", "x")), {name: "p" for name in ("ann", "bob", "cy")})
                office.start("c")
                office.do("c", "v", *persons)
                self.assertEqual(office.doers("c", "v"), tuple(sorted(persons)))

    def test_doers(self):
        tasks = {"a": Vote(2), "h": HandOn("a", "z"), "f": Reopen("z"), "x": Task(other=["a", "z"])}
        office = Office(Book({"p": []}, tasks, ("then", "a", "h", "f", "x")), {name: "p" for name in ("ann", "bob", "cy")})
        office.start("c")
        self.assertEqual([office.doers("c", name) for name in ("a", "z")], [(), ()])
        office.do("c", "a", "cy", "ann")
        self.assertEqual([office.doers("c", name) for name in ("a", "z", "h", "x")], [("ann", "cy"), (), (), ()])
        office.do("c", "h", "bob")
        self.assertEqual([office.doers("c", name) for name in ("a", "z", "h")], [("bob",), ("bob",), ()])
        self.assertEqual(office.stand("c")[1], (("p", ("a", "z")),))
        office.do("c", "f", "ann")
        self.assertEqual([office.doers("c", name) for name in ("a", "z", "f")], [("bob",), (), ()])
        for value in many_kinds() + [["a"], ("a",), b"a", None]:
            self.assertEqual(office.doers("c", value), ())

    def test_blocks_of_equal_persons(self):
        office = Office(Book(kinds_of("q", "p"), {"v": Vote(3), "x": Task(other=["v"])}, ("then", "v", "x")), {"a": "q", "b": "p", "c": "q"})
        office.start("c")
        office.do("c", "v", "a", "c", "b")
        self.assertEqual(office.stand("c")[1], (("p", ("v",)), ("q", ("v",)), ("q", ("v",))))

    def test_stands_are_those_of_the_book(self):
        office = check_office()
        office.start("c")
        self.assertEqual(moves(office.book, office.stand("c")), [("do", 0, (("p", ()),))])


class TestPersons(OfficeCase):
    def test_join(self):
        office = Office(Book(kinds_of("p", "q"), {}, DONE), {"bob": "p"})
        office.join("ann", "q")
        self.assertEqual((list(office.persons.items()), office.staff), ([("ann", "q"), ("bob", "p")], Staff(p=1, q=1)))
        for value in many_kinds() + ["Ann", ""]:
            if value not in ("p", "self"):
                self.assert_error(office, InvalidName, value, call=lambda: office.join(value, "zz"))
        for kind in ("p", "zz", None, []):
            self.assert_error(office, Clash, "bob", call=lambda: office.join("bob", kind))
        for kind in many_kinds() + ["r", ["p"], ("p",)]:
            if kind != "p":
                self.assert_error(office, UnknownKind, kind, call=lambda: office.join("cy", kind))

    def test_leave(self):
        office = check_office()
        for value in many_kinds() + ["zz", "Ann", ["ann"], ("ann",)]:
            self.assert_error(office, UnknownPerson, value, call=lambda: office.leave(value))
        office.start("c")
        office.start("d")
        office.do("c", "enter", "ann")
        office.do("d", "enter", "bob")
        office.leave("ann")
        self.assertEqual((office.persons, office.staff), ({"bob": "p", "cy": "p"}, Staff(p=2)))
        self.assertEqual([office.doers(case, "enter") for case in "cd"], [(), ("bob",)])
        self.assertEqual(office.stand("c"), (BRANCH, ()))
        self.assert_error(office, UnknownPerson, "ann", call=lambda: office.leave("ann"))
        office.choose("c", 0)
        self.assert_error(office, UnknownPerson, "ann", call=lambda: office.do("c", "check", "ann"))

    def test_who_comes_back_is_free(self):
        office = check_office()
        office.start("c")
        office.do("c", "enter", "ann")
        office.choose("c", 0)
        self.assert_error(office, DidLast, "ann", "enter", call=lambda: office.do("c", "check", "ann"))
        office.leave("ann")
        office.join("ann", "p")
        self.assertEqual(office.doers("c", "enter"), ())
        office.do("c", "check", "ann")

    def test_complete_cases_too(self):
        office = check_office()
        office.start("c")
        office.do("c", "enter", "ann")
        office.choose("c", 1)
        office.leave("ann")
        self.assertEqual(office.stand("c"), (DONE, ()))


class TestUndo(OfficeCase):
    def test_each_action(self):
        office = Office(Book({"p": []}, {"a": Task(other=["a"])}, ("then", ("either", "a", DONE), ("any", "a", DONE))), {"ann": "p"})
        states = [seen(office)]
        for call in (lambda: office.start("c"), lambda: office.choose("c", 0), lambda: office.do("c", "a", "ann"), lambda: office.pick("c", 0),
                     lambda: office.join("bob", "p"), lambda: office.leave("ann"), lambda: office.do("c", "a", "bob")):
            call()
            states.append(seen(office))
        self.assertEqual((office.undoable, office.redoable), (7, 0))

        def alike(one, other):
            return {**one, "undoable": 0, "redoable": 0} == {**other, "undoable": 0, "redoable": 0}
        for back in range(7, 0, -1):
            office.undo()
            self.assertTrue(alike(seen(office), states[back - 1]))
            self.assertEqual((office.undoable, office.redoable), (back - 1, 8 - back))
        for forth in range(1, 8):
            self.assertIsNone(office.redo())
            self.assertTrue(alike(seen(office), states[forth]))
            self.assertEqual((office.undoable, office.redoable), (forth, 7 - forth))
        self.assertIsNone(office.undo(5))
        self.assertTrue(alike(seen(office), states[2]))
        office.redo(3)
        self.assertTrue(alike(seen(office), states[5]))
        office.undo(5)
        self.assertTrue(alike(seen(office), states[0]))

    def test_out_of_range(self):
        office = check_office()
        office.start("c")
        office.start("d")
        office.undo()
        for call in (office.undo, office.redo):
            for count in [0, -1, 2, 3, 10 ** 30, True, False, None, "1", (1,), [], {}] + many_kinds():
                if count.__class__ is not int or count != 1:
                    self.assert_error(office, OutOfRange, count, call=lambda: call(count))
        office.undo()
        self.assert_error(office, OutOfRange, 1, call=lambda: office.undo(1))
        with self.assertRaises(OutOfRange) as caught:
            office.undo()
        self.assertEqual(caught.exception.value, 1)

    def test_a_new_action_makes_redoing_impossible(self):
        office = check_office()
        office.start("c")
        office.start("d")
        office.undo(2)
        self.assert_error(office, InvalidName, "", call=lambda: office.start(""))
        self.assert_error(office, UnknownPerson, "zz", call=lambda: office.leave("zz"))
        self.assertEqual(office.redoable, 2)
        office.join("dan", "p")
        self.assertEqual((office.undoable, office.redoable), (1, 0))
        self.assert_error(office, OutOfRange, 1, call=lambda: office.redo(1))


class TestTrials(OfficeCase):
    def test_not_kept(self):
        for make in EVERY:
            office = check_office(make)
            office.start("c")
            office.start("d")
            office.undo()
            before = seen(office)
            with office.trial() as same:
                self.assertIs(same, office)
                self.assertEqual(office.depth, 1)
                office.do("c", "enter", "ann")
                office.leave("bob")
                self.assertEqual((office.undoable, office.redoable), (1, 1))
                self.assertEqual(office.doers("c", "enter"), ("ann",))
            self.assertEqual(seen(office), before)
            office.redo()

    def test_kept(self):
        for make in EVERY:
            office = check_office(make)
            office.start("c")
            office.start("d")
            office.undo()
            trial = office.trial()
            with trial:
                office.do("c", "enter", "ann")
                self.assertIsNone(trial.keep())
                office.choose("c", 0)
                self.assertEqual((office.undoable, office.redoable), (1, 1))
            self.assertEqual((office.undoable, office.redoable, office.depth), (2, 0, 0))
            self.assertEqual(office.stand("c")[0], "check")
            office.undo()
            self.assertEqual(office.stand("c"), first_stand(check_book()))
            office.redo()
            self.assertEqual(office.stand("c")[0], "check")
            office.undo(2)
            self.assertEqual(office.cases, ())

    def test_kept_without_actions(self):
        office = check_office()
        office.start("c")
        office.undo()
        with office.trial() as same, office.trial():
            office.start("x")
        self.assertIs(same, office)
        trial = office.trial()
        with trial:
            trial.keep()
        self.assertEqual((office.undoable, office.redoable), (0, 1))
        trial = office.trial()
        with trial:
            trial.keep()
            self.assert_error(office, InvalidName, "", call=lambda: office.start(""))
        self.assertEqual((office.undoable, office.redoable), (0, 1))

    def test_ended_by_errors(self):
        for error in (ZeroDivisionError, Clash, KeyboardInterrupt):
            for is_kept in (False, True):
                office = check_office()
                before = seen(office)
                trial = office.trial()
                with self.assertRaises(error):
                    with trial:
                        office.start("c")
                        if is_kept:
                            trial.keep()
                        office.start("d")
                        if error is Clash:
                            office.start("c")
                        raise error
                self.assertEqual(seen(office), before)

    def test_one_within_another(self):
        for outer, inner in itertools.product((False, True), repeat=2):
            office = check_office()
            one, two = office.trial(), office.trial()
            with one:
                office.start("a")
                with two:
                    self.assertEqual((office.depth, office.undoable), (2, 0))
                    office.start("b")
                    if inner:
                        two.keep()
                self.assertEqual(office.depth, 1)
                self.assertEqual(office.cases, ("a", "b") if inner else ("a",))
                if outer:
                    one.keep()
            self.assertEqual(office.depth, 0)
            self.assertEqual(office.cases, (("a", "b") if inner else ("a",)) if outer else ())
            self.assertEqual(office.undoable, 1 if outer else 0)
            if outer:
                office.undo()
                self.assertEqual(office.cases, ())

    def test_actions_of_inner_blocks_alone(self):
        """What is not kept within does not count, what is kept does."""
        for inner in (False, True):
            office = check_office()
            office.start("c")
            office.undo()
            one, two = office.trial(), office.trial()
            with one:
                one.keep()
                with two:
                    office.start("x")
                    if inner:
                        two.keep()
            self.assertEqual((office.undoable, office.redoable), (1, 0) if inner else (0, 1))
            office = check_office()
            with office.trial() as same:
                office.start("a")
                with office.trial():
                    office.start("b")
                self.assertEqual(same.cases, ("a",))
            self.assertEqual(office.cases, ())
        office = check_office()
        one, two, three = office.trial(), office.trial(), office.trial()
        with one:
            one.keep()
            office.start("a")
            with two:
                two.keep()
            with three:
                office.start("b")
        self.assertEqual((office.undoable, office.cases), (1, ("a",)))

    def test_an_error_that_is_caught_within(self):
        office = check_office()
        one = office.trial()
        with one:
            one.keep()
            office.start("a")
            try:
                with office.trial():
                    office.start("b")
                    raise ZeroDivisionError
            except ZeroDivisionError:
                pass
            office.start("d")
        self.assertEqual((office.undoable, office.cases), (1, ("a", "d")))

    def test_undo_within(self):
        for make in EVERY:
            office = check_office(make)
            office.start("c")
            office.start("d")
            office.undo()
            with office.trial():
                office.join("dan", "p")
                for call in (office.undo, office.redo):
                    for count in (1, 0, 7, None, True, "x"):
                        self.assert_error(office, InTrial, call=lambda: call(count))
                    self.assert_error(office, InTrial, call=call)
                with office.trial():
                    self.assert_error(office, InTrial, call=office.undo)
                self.assertEqual((office.undoable, office.redoable), (1, 1))
            office.redo()
            office.undo(2)

    def test_attempt_and_tried(self):
        for make in EVERY:
            office = check_office(make)
            value = object()

            def action(same):
                self.assertIs(same, office)
                self.assertEqual(office.depth, 1)
                same.start("a")
                same.start("b")
                return value
            self.assertIs(office.tried(action), value)
            self.assertEqual((office.cases, office.undoable), ((), 0))
            self.assertIs(office.attempt(action), value)
            self.assertEqual((office.cases, office.undoable, office.depth), (("a", "b"), 1, 0))
            with self.assertRaises(Clash):
                office.attempt(lambda same: (same.start("x"), same.start("a")))
            self.assertEqual((office.cases, office.undoable), (("a", "b"), 1))
            self.assertIsNone(office.attempt(lambda same: None))
            self.assertEqual(office.undoable, 1)
            self.assertEqual(office.tried(lambda same: same.attempt(lambda again: again.start("x"))), None)
            self.assertEqual(office.cases, ("a", "b"))
            office.attempt(lambda same: same.tried(lambda again: again.start("x")))
            self.assertEqual(office.undoable, 1)

    def test_many_cases_and_persons(self):
        office = Office(check_book(), {f"p{chr(97 + at)}": "p" for at in range(20)})
        for at in range(10):
            office.start(f"c{chr(97 + at)}")
        for case in office.cases:
            office.do(case, "enter", "pa")
        self.assertEqual(len(office.running), 10)
        office.leave("pa")
        self.assertEqual([office.doers(case, "enter") for case in office.cases], [()] * 10)
        office.undo(21)
        self.assertEqual(office.cases, ())


if __name__ == "__main__":
    unittest.main()
