import random
import unittest

import reference
from fewhands import stands as module
from fewhands.books import Book
from fewhands.errors import TooMany, UnknownMove, UnknownStand
from fewhands.staffs import Staff
from fewhands.stands import after, first_stand, moves, needs, stands
from fewhands.tasks import HandOn, Reopen, Task, Vote
from samples import DONE, check_book, full_book, kinds_of, state, tasks_of
from values import many_kinds

FREE = ("p", ())


def one_task(task, **others):
    """A book with one kind and a plan of one task, in which x, y and z are remembered."""
    tasks = {"t": task, "x": Task(), "y": Task(), "z": Task(), "u": Task(other=["x", "y", "z"]), **others}
    return Book({"p": []}, tasks, "t")


def at(*blocks):
    """The stand of such a book at which persons of kind p are last doers of these names each."""
    return "t", tuple(sorted(("p", tuple(names)) for names in blocks))


def group(*members):
    """The deed of a group of persons of kind p who are last doers of these names each."""
    return "do", 0, tuple(sorted(("p", tuple(names)) for names in members))


class StandCase(unittest.TestCase):
    def assert_unknown_stand(self, book, value, move=("choose", 0)):
        for call in (lambda: moves(book, value), lambda: after(book, value, move), lambda: needs(book, value, move)):
            with self.assertRaises(UnknownStand, msg=repr(value)) as caught:
                call()
            self.assertIs(caught.exception.value, value)

    def assert_unknown_move(self, book, stand, value):
        for call in (after, needs):
            with self.assertRaises(UnknownMove, msg=repr(value)) as caught:
                call(book, stand, value)
            self.assertIs(caught.exception.value, value)

    def assert_deeds(self, book, stand, *deeds):
        """Just these deeds can be done at the stand: pairs of a deed and the blocks behind it."""
        self.assertEqual(moves(book, stand), [move for move, _ in deeds])
        for move, blocks in deeds:
            self.assertEqual(after(book, stand, move), (DONE, at(*blocks)[1]), move)


class TestFirstStand(StandCase):
    def test_the_plan_in_normal_form_without_blocks(self):
        self.assertEqual(first_stand(check_book()), (("then", "enter", ("either", "check", DONE)), ()))
        book = Book({"p": []}, tasks_of("a"), ("then", ("then", "a"), DONE))
        self.assertEqual(first_stand(book), ("a", ()))
        self.assertEqual(first_stand(book=Book({"p": []}, {}, DONE)), (DONE, ()))


class TestExample(StandCase):
    def test_the_example_of_the_document(self):
        check = check_book()
        shown = [moves(check, first_stand(check)), len(stands(check)),
                 needs(check, ("check", (("p", ("enter",)),)), ("do", 0, (("p", ()),))).total]
        self.assertEqual(repr(shown), "[[('do', 0, (('p', ()),))], 4, 2]")

    def test_the_whole_book(self):
        check = check_book()
        block = (("p", ("enter",)),)
        branch = ("either", "check", DONE)
        self.assertEqual(stands(check), [(("then", "enter", branch), ()), (branch, block), ("check", block), (DONE, block)])
        self.assertEqual(moves(check, (branch, block)), [("choose", 0), ("choose", 1)])
        self.assertEqual(after(check, (branch, block), ("choose", 0)), ("check", block))
        self.assertEqual(after(check, (branch, block), ("choose", 1)), (DONE, block))
        self.assertEqual(moves(check, ("check", block)), [("do", 0, (FREE,))])
        self.assertEqual(after(check, ("check", block), ("do", 0, (FREE,))), (DONE, block))
        self.assertEqual(moves(check, (DONE, block)), [])


class TestPlans(StandCase):
    def test_choices_of_the_world(self):
        book = Book({"p": []}, {"a": Task(), "b": Task()}, ("then", ("either", "a", DONE, ("then", "b", "a")), ("again", "b")))
        loop = ("again", "b")
        stand = first_stand(book)
        self.assertEqual(moves(book, stand), [("choose", 0), ("choose", 1), ("choose", 2)])
        self.assertEqual([after(book, stand, move) for move in moves(book, stand)],
                         [(("then", "a", loop), ()), (loop, ()), (("then", "b", "a", loop), ())])
        self.assertEqual(moves(book, (loop, ())), [("choose", 0), ("choose", 1)])
        self.assertEqual(after(book, (loop, ()), ("choose", 0)), (DONE, ()))
        self.assertEqual(after(book, (loop, ()), ("choose", 1)), (("then", "b", loop), ()))

    def test_picks_and_deeds_side_by_side(self):
        pick = ("any", "a", DONE)
        book = Book(kinds_of("p", "q"), tasks_of("a", "b"), ("then", ("beside", pick, ("then", "b", "a")), "b"))
        stand = first_stand(book)
        self.assertEqual(moves(book, stand), [("pick", 0, 0), ("pick", 0, 1), ("do", 1, (FREE,)), ("do", 1, (("q", ()),))])
        self.assertEqual([after(book, stand, move)[0] for move in moves(book, stand)], [
            ("then", ("beside", "a", ("then", "b", "a")), "b"), ("then", "b", "a", "b"),
            ("then", ("beside", pick, "a"), "b"), ("then", ("beside", pick, "a"), "b")])
        stand = (("then", ("beside", "a", ("then", "b", "a")), "b"), ())
        self.assertEqual([move[:2] for move in moves(book, stand)], [("do", 0)] * 2 + [("do", 1)] * 2)

    def test_the_same_task_at_both_places(self):
        book = Book({"p": []}, tasks_of("a"), ("beside", "a", ("then", "a", "a")))
        stand = first_stand(book)
        self.assertEqual(moves(book, stand), [("do", 0, (FREE,)), ("do", 1, (FREE,))])
        self.assertEqual(after(book, stand, ("do", 0, (FREE,))), (("then", "a", "a"), ()))
        self.assertEqual(after(book, stand, ("do", 1, (FREE,))), (("beside", "a", "a"), ()))

    def test_a_choice_of_the_world_in_the_second_part(self):
        book = Book({"p": []}, tasks_of("a", "b"), ("beside", ("then", "a", ("either", "a", "b")), ("again", "b")))
        stand = first_stand(book)
        self.assertEqual(moves(book, stand), [("choose", 0), ("choose", 1)])
        self.assertEqual(after(book, stand, ("choose", 0)), (("then", "a", ("either", "a", "b")), ()))
        self.assertEqual(after(book, stand, ("choose", 1)),
                         (("beside", ("then", "a", ("either", "a", "b")), ("then", "b", ("again", "b"))), ()))

    def test_a_complete_plan(self):
        book = Book({"p": []}, {}, DONE)
        self.assertEqual((moves(book, (DONE, ())), stands(book)), ([], [(DONE, ())]))
        for move in (("choose", 0), ("pick", 0, 0), ("do", 0, ())):
            self.assert_unknown_move(book, (DONE, ()), move)


class TestGroups(StandCase):
    def test_one_free_person(self):
        self.assert_deeds(one_task(Task()), at(), (group(""), []))

    def test_free_persons_and_blocks(self):
        self.assert_deeds(one_task(Task()), at("x", "xy"), (group(""), ["x", "xy"]), (group("x"), ["x", "xy"]), (group("xy"), ["x", "xy"]))

    def test_groups_of_two(self):
        found = [("", ""), ("", "x"), ("", "y"), ("x", "x"), ("x", "y")]
        self.assert_deeds(one_task(Vote(2)), at("x", "x", "y"), *[(group(*members), ["x", "x", "y"]) for members in found])

    def test_groups_of_three(self):
        found = [("", "", ""), ("", "", "x"), ("", "", "y"), ("", "x", "x"), ("", "x", "y"), ("x", "x", "y")]
        self.assert_deeds(one_task(Vote(3)), at("x", "x", "y"), *[(group(*members), ["x", "x", "y"]) for members in found])

    def test_a_block_as_often_as_the_stand_has_it(self):
        self.assertEqual(len(moves(one_task(Vote(3)), at("x", "x", "x"))), 4)
        self.assertEqual(len(moves(one_task(Vote(3)), at("x", "x"))), 3)

    def test_kinds_and_roles(self):
        book = Book({"c": ["boss"], "a": [], "b": ["x", "boss"]}, {"t": Task("boss", many=2), "u": Task(), "x": Task("none")},
                    ("any", "t", "u", "x"))
        self.assertEqual(moves(book, ("t", ())), [("do", 0, (("b", ()), ("b", ()))), ("do", 0, (("b", ()), ("c", ()))),
                                                 ("do", 0, (("c", ()), ("c", ())))])
        self.assertEqual(moves(book, ("u", ())), [("do", 0, ((kind, ()),)) for kind in "abc"])
        self.assertEqual(moves(book, ("x", ())), [])

    def test_blocks_of_kinds_without_the_role(self):
        book = Book({"p": ["r"], "q": []}, {"t": Task("r"), "x": Task(other=["x"])}, ("any", "t", "x"))
        stand = ("t", (("p", ("x",)), ("q", ("x",))))
        self.assertEqual(moves(book, stand), [("do", 0, (FREE,)), ("do", 0, (("p", ("x",)),))])

    def test_members_in_ascending_order(self):
        book = Book({"q": [], "p": []}, {"t": Vote(2), "x": Task(other=["x"])}, ("any", "t", "x"))
        stand = ("t", (("p", ("x",)), ("q", ("x",))))
        members = [("p", ()), ("p", ("x",)), ("q", ()), ("q", ("x",))]
        found = [(one, other) for one in members for other in members if one < other or one == other and not one[1]]
        self.assertEqual(moves(book, stand), [("do", 0, pair) for pair in found])
        self.assertEqual(found, sorted(found))


class TestWhoCan(StandCase):
    def test_other(self):
        self.assert_deeds(one_task(Task(other=["x"])), at("x", "y", "xy"), (group(""), ["x", "y", "xy"]), (group("y"), ["x", "y", "xy"]))
        self.assertEqual(moves(one_task(Task(other=["x", "y"])), at("x", "y", "z", "yz")), [group(""), group("z")])

    def test_same(self):
        self.assertEqual(moves(one_task(Task(same=["x"])), at("x", "y", "xy")), [group("x"), group("xy")])
        self.assertEqual(moves(one_task(Task(same=["x", "y"])), at("x", "y", "xy", "xyz")), [group("xy"), group("xyz")])
        self.assertEqual(moves(one_task(Task(same=["x"], many=2)), at("x", "x", "y")), [group("x", "x")])

    def test_nobody_who_can(self):
        self.assertEqual(moves(one_task(Task(same=["x"])), at()), [])
        self.assertEqual(moves(one_task(Task(same=["x"])), at("y", "z")), [])
        self.assertEqual(moves(one_task(Task(same=["x"], many=2)), at("x", "y")), [])
        self.assertEqual(moves(one_task(Task(same=["x"], other=["x"])), at("x", "y")), [])

    def test_other_and_same(self):
        self.assertEqual(moves(one_task(Task(same=["x"], other=["y"])), at("x", "y", "xy", "xz")), [group("x"), group("xz")])

    def test_the_task_itself(self):
        book = Book({"p": []}, {"t": Task(other=["t"])}, ("again", "t"))
        stand = (("then", "t", ("again", "t")), ())
        self.assertEqual(after(book, stand, group("")), (("again", "t"), (("p", ("t",)),)))
        stand = (("then", "t", ("again", "t")), (("p", ("t",)),))
        self.assertEqual(moves(book, stand), [group("")])
        self.assertEqual(after(book, stand, group("")), (("again", "t"), (("p", ("t",)),)))
        book = Book({"p": []}, {"t": Task(same=["t"])}, ("then", "t", "t"))
        self.assertEqual(moves(book, first_stand(book)), [])

    def test_names_that_are_no_tasks(self):
        book = Book({"p": []}, {"t": Task(takes=["w"]), "s": Task(same=["w"]), "o": Task(other=["w"])}, ("then", "t", ("any", "s", "o")))
        self.assertEqual(book.remembered, ("w",))
        stand = after(book, first_stand(book), group(""))
        self.assertEqual(stand, (("any", "s", "o"), (("p", ("w",)),)))
        self.assertEqual(moves(book, ("s", stand[1])), [group("w")])
        self.assertEqual(moves(book, ("o", stand[1])), [group("")])


class TestLastDoers(StandCase):
    def test_a_task_that_is_not_remembered(self):
        self.assert_deeds(one_task(Task(takes=["v"], forgets=["w"])), at("x"), (group(""), ["x"]), (group("x"), ["x"]))

    def test_the_task_itself(self):
        book = one_task(Vote(2), u=Task(other=["t"]))
        stand = "t", (("p", ("t",)), ("p", ("t",)))
        for deed in (group("", ""), group("", "t"), group("t", "t")):
            self.assertEqual(after(book, stand, deed), (DONE, (("p", ("t",)), ("p", ("t",)))))

    def test_takes(self):
        self.assert_deeds(one_task(HandOn("x")), at("x", "xy"), (group(""), ["x", "y"]), (group("x"), ["x", "y"]), (group("xy"), ["xy"]))
        self.assert_deeds(one_task(HandOn("x", "z")), at("yz"), (group(""), ["xz", "y"]), (group("yz"), ["xyz"]))
        self.assert_deeds(one_task(Task(many=2, takes=["x"])), at("xy", "y"), (group("", ""), ["x", "x", "y", "y"]),
                          (group("", "xy"), ["x", "xy", "y"]), (group("", "y"), ["x", "xy", "y"]), (group("xy", "y"), ["xy", "xy"]))

    def test_forgets(self):
        self.assert_deeds(one_task(Reopen("x")), at("x", "xy"), (group(""), ["y"]), (group("x"), ["y"]), (group("xy"), ["y"]))
        self.assert_deeds(one_task(Reopen("x", "y")), at("x", "xyz"), *[(group(who), ["z"]) for who in ("", "x", "xyz")])

    def test_takes_and_forgets(self):
        """What the group takes it keeps, also if the name is in forgets."""
        self.assert_deeds(one_task(Task(takes=["x"], forgets=["x", "y"])), at("xy"), (group(""), ["x"]), (group("xy"), ["x"]))
        book = one_task(Task(takes=["t"], forgets=["t", "x"]), u=Task(other=["t", "x"]))
        self.assertEqual(after(book, ("t", (("p", ("x",)),)), group("")), (DONE, (("p", ("t",)),)))

    def test_the_task_itself_in_all_its_lists(self):
        book = Book({"p": []}, {"t": Task(takes=["t"], forgets=["t"], other=["t"])}, ("then", "t", "t"))
        stand = after(book, first_stand(book), group(""))
        self.assertEqual(stand, ("t", (("p", ("t",)),)))
        self.assertEqual(moves(book, stand), [group("")])
        self.assertEqual(after(book, stand, group("")), (DONE, (("p", ("t",)),)))

    def test_blocks_in_ascending_order(self):
        book = Book({"q": [], "p": []}, {"a": Task(), "b": Task(other=["a"]), "c": Task(other=["b"])}, ("then", "b", "a", "c"))
        stand = after(book, first_stand(book), ("do", 0, (("q", ()),)))
        stand = after(book, stand, ("do", 0, (("p", ()),)))
        self.assertEqual(stand, ("c", (("p", ("a",)), ("q", ("b",)))))
        stand = after(book, ("c", (("p", ("a", "b")), ("q", ("a",)))), ("do", 0, (("q", ("a",)),)))
        self.assertEqual(stand, (DONE, (("p", ("a", "b")), ("q", ("a",)))))

    def test_more_than_five_blocks(self):
        """A stand that runs do not reach can lead there, but is no stand any more."""
        book = Book({"p": []}, {"t": Task(many=3, other=["t"]), "x": Task(), "u": Task(other=["x"])}, ("then", "t", "u"))
        stand = (("then", "t", "u"), (("p", ("x",)),) * 5)
        behind = after(book, stand, ("do", 0, (FREE,) * 3))
        self.assertEqual(behind, ("u", (("p", ("t",)),) * 3 + (("p", ("x",)),) * 5))
        self.assert_unknown_stand(book, behind, ("do", 0, (FREE,)))
        self.assertEqual(needs(book, stand, ("do", 0, (FREE,) * 3)), Staff(p=8))


class TestNeeds(StandCase):
    def test_choices_and_picks(self):
        book = Book(kinds_of("p", "q"), {"a": Task(other=["a"])}, ("then", ("any", "a", DONE), ("either", "a", DONE)))
        blocks = (("p", ("a",)), ("q", ("a",)), ("q", ("a",)))
        self.assertEqual(needs(book, first_stand(book), ("pick", 0, 1)), Staff())
        self.assertEqual(needs(book, (book.plan, blocks), ("pick", 0, 0)), Staff(p=1, q=2))
        self.assertEqual(needs(book, (("either", "a", DONE), blocks), ("choose", 1)), Staff(p=1, q=2))
        self.assertEqual(needs(book, (("either", "a", DONE), ()), ("choose", 1)), Staff())

    def test_deeds(self):
        book = Book(kinds_of("p", "q"), {"t": Vote(3), "x": Task(other=["x"])}, ("any", "t", "x"))
        stand = ("t", (("p", ("x",)), ("p", ("x",)), ("q", ("x",))))
        for members, staff in (
            ((("p", ()),) * 3, Staff(p=5, q=1)), ((("p", ()), ("p", ("x",)), ("p", ("x",))), Staff(p=3, q=1)),
            ((("p", ("x",)), ("p", ("x",)), ("q", ("x",))), Staff(p=2, q=1)), ((("q", ()),) * 3, Staff(p=2, q=4)),
            ((("p", ()), ("q", ()), ("q", ("x",))), Staff(p=3, q=2)),
        ):
            self.assertIs(needs(book, stand, ("do", 0, members)).__class__, Staff)
            self.assertEqual(needs(book, stand, ("do", 0, members)), staff)

    def test_arguments_by_name(self):
        book = check_book()
        stand, move = first_stand(book), ("do", 0, (FREE,))
        self.assertEqual(moves(book=book, stand=stand), [move])
        self.assertEqual(after(move=move, stand=stand, book=book)[1], (("p", ("enter",)),))
        self.assertEqual(needs(stand=stand, move=move, book=book), Staff(p=1))
        self.assertEqual(len(stands(book=book)), 4)


class TestAgainstTheRules(StandCase):
    """Random books, against the rules with persons who are told apart."""

    def assert_as_by_persons(self, book, stand):
        rows = reference.stand_moves(book, stand)
        self.assertEqual(moves(book, stand), [move for move, _ in rows], (book.text(), stand))
        for move, behind in rows:
            self.assertEqual(after(book, stand, move), behind, (book.text(), stand, move))
            self.assertEqual(needs(book, stand, move).numbers(), reference.move_needs(stand, move))
            self.assertEqual(behind[1], tuple(sorted(behind[1])))

    def test_stands_that_runs_reach(self):
        made = random.Random(60)
        for _ in range(150):
            book = reference.random_book(made)
            known = reference.all_stands(book, 60)
            if len(known) <= 60:
                self.assertEqual(stands(book), known, book.text())
            for stand in made.sample(known, min(len(known), 8)):
                self.assertLessEqual(len(stand[1]), book.width)
                self.assert_as_by_persons(book, stand)

    def test_stands_that_no_run_reaches(self):
        made = random.Random(61)
        tried = 0
        while tried < 150:
            book = reference.random_book(made)
            if book.remembered:
                tried += 1
                plan = made.choice(sorted(reference.plans_left(book.plan), key=repr))
                self.assert_as_by_persons(book, (plan, random_blocks(made, book)))

    def test_plans_that_moves_leave(self):
        """Whoever could make the moves, these plans make stands, and other ones do not."""
        made = random.Random(62)
        others = 0
        for _ in range(150):
            book = reference.random_book(made)
            left = reference.plans_left(book.plan)
            for plan in left:
                self.assertEqual(moves(book, (plan, ())), [move for move, _ in reference.stand_moves(book, (plan, ()))])
            more = {reference.random_plan(made, list(book.names), 3) for _ in range(10)}
            more |= {("then", one, other) for one in left for other in book.names}
            more |= {part for plan in left for part, _ in reference.parts_in_order(plan)}
            for plan in sorted(more - left, key=repr)[:20]:
                others += 1
                self.assert_unknown_stand(book, (plan, ()))
        self.assertGreater(others, 1000)


def random_blocks(made, book):
    """Blocks that any stand of the book may have."""
    found = []
    for _ in range(made.randint(0, 5)):
        many = made.randint(1, len(book.remembered))
        found.append((made.choice(sorted(book.kinds)), tuple(sorted(made.sample(book.remembered, many)))))
    return tuple(sorted(found))


class TestUnknownStands(StandCase):
    def test_values_of_any_kind(self):
        book = Book({"p": []}, {"p": Task(other=["p"])}, "p")
        blocks = (("p", ("p",)),)
        for value in many_kinds():
            self.assert_unknown_stand(book, value)
            self.assert_unknown_stand(book, (value,))
            self.assert_unknown_stand(book, ("p", (), value))
            self.assert_unknown_stand(book, ("p", blocks + (value,)))
            if value != "p":
                self.assert_unknown_stand(book, (value, ()))
                self.assert_unknown_stand(book, ("p", ((value, ("p",)),)))
                self.assert_unknown_stand(book, ("p", (("p", (value,)),)))
            if value != ():
                self.assert_unknown_stand(book, ("p", value))
            if value != ("p",):
                self.assert_unknown_stand(book, ("p", (("p", value),)))

    def test_plans_that_moves_do_not_leave(self):
        book = Book({"p": []}, tasks_of("a", "b", "c"), ("then", "a", ("beside", ("then", "b", "c"), ("either", "a", "b"))))
        choice = ("either", "a", "b")
        for plan in (book.plan, ("beside", ("then", "b", "c"), choice), ("beside", ("then", "b", "c"), "a"), ("beside", "c", "b"),
                     ("then", "b", "c"), "a", "b", "c", DONE):
            self.assertEqual(first_stand(book)[1], ())
            moves(book, (plan, ()))
        # The world chooses before the staff can go on beside it.
        for plan in (("beside", "c", choice), choice, ("then", "a", "b"), ("beside", "a", "c"), ("either", "a"), ("again", "a"), "d", "then"):
            self.assert_unknown_stand(book, (plan, ()))

    def test_plans_that_are_not_in_normal_form(self):
        book = Book({"p": []}, tasks_of("a", "b"), ("beside", "a", ("then", "b", "a")))
        for plan in (("then", "a"), ("then", ("then", "b", "a")), ("then", "b", "a", DONE), ("then", DONE), ("beside", DONE, "a"),
                     ("beside", "a", ("then", "b", ("then", "a"))), ("then", "b", ("then", "a"))):
            self.assert_unknown_stand(book, (plan, ()))
        for plan in (("then", "b", "a"), "a", DONE):
            moves(book, (plan, ()))

    def test_lists_for_tuples(self):
        book = check_book()
        block, plan = ("p", ("enter",)), ("then", "enter", ("either", "check", DONE))
        moves(book, (plan, (block,)))
        for value in ([plan, (block,)], (list(plan), (block,)), (plan, [block]), (plan, (list(block),)), (plan, (("p", ["enter"]),)),
                      (("then", "enter", ["either", "check", DONE]), ()), (("then", "enter", ("either", "check", ["then"])), ()), [plan, ()]):
            self.assert_unknown_stand(book, value)

    def test_blocks(self):
        book = Book(kinds_of("p", "q"), {"t": Task(), "x": Task(other=["x", "y"]), "y": Task()}, ("any", "t", "x", "y"))
        one, two, three, four = ("p", ("x",)), ("p", ("x", "y")), ("p", ("y",)), ("q", ("x",))
        for blocks in ((one,), (one, one), (one, two, three, four), (one,) * 5, (one, one, four, four, four)):
            moves(book, ("t", blocks))
        for blocks in (
            (two, one), (four, one), (three, two), (one, two, one), (one,) * 6, (one, one, one, one, two, four),
            (("r", ("x",)),), (("", ("x",)),), (("p", ("t",)),), (("p", ("z",)),), (("p", ("x", "z")),), (("p", ()),), (("p", ("y", "x")),),
            (("p", ("x", "x")),), (("p", "x"),), (("p",),), (("p", ("x",), ()),), ("p", ("x",)), (("x",),), ("p",), "p", (one, ("p", ())),
            ((("p",), ("x",)),), ((b"p", ("x",)),), (("p", (b"x",)),), None, 0, {}, {one: 1},
        ):
            self.assert_unknown_stand(book, ("t", blocks))

    def test_stands_ahead_of_moves(self):
        for value in many_kinds():
            self.assert_unknown_stand(check_book(), ("enter", ()), value)

    def test_deep_plans(self):
        plan = DONE
        for _ in range(18):
            plan = ("any", plan)
        self.assert_unknown_stand(check_book(), (plan, ()))

    def test_a_plan_with_more_levels_than_the_one_of_the_book(self):
        plan = ("again", ("again", ("again", ("again", ("again", "a")))))
        book = Book({"p": []}, tasks_of("a"), plan)
        left = after(book, first_stand(book), ("choose", 1))
        self.assertEqual(left[0], ("then", plan[1], plan))
        self.assertEqual(moves(book, left), [("choose", 0), ("choose", 1)])
        self.assertEqual(len(stands(book)), 7)


class TestUnknownMoves(StandCase):
    def test_values_of_any_kind(self):
        book = full_book()
        for stand in stands(book)[:4]:
            for value in many_kinds():
                self.assert_unknown_move(book, stand, value)
                for move in (("choose", value), ("pick", 0, value), ("pick", value, 0), ("do", 0, value), ("do", value, (("b", ()),)),
                             ("do", 0, (value,)), (value, 0), (value,), ("do", 0, (("b", value),)), ("do", 0, ((value, ()),))):
                    # By their texts: True and False are equal to indexes.
                    if repr(move) not in [repr(known) for known in moves(book, stand)]:
                        self.assert_unknown_move(book, stand, move)

    def test_bools_for_indexes(self):
        book = Book({"p": []}, tasks_of("a"), ("either", "a", ("beside", ("any", "a", "a"), ("any", "a", "a"))))
        stand = first_stand(book)
        for move in (("choose", False), ("choose", True)):
            self.assert_unknown_move(book, stand, move)
        stand = after(book, stand, ("choose", 1))
        for move in (("pick", False, 0), ("pick", 0, False), ("pick", True, 1), ("pick", 1, True), ("pick", True, True)):
            self.assert_unknown_move(book, stand, move)
        for move in (("do", False, (FREE,)), ("do", True, (FREE,))):
            self.assert_unknown_move(book, ("a", ()), move)

    def test_choices_and_picks(self):
        book = Book({"p": []}, tasks_of("a"), ("then", ("either", DONE, "a"), ("any", "a", DONE)))
        for move in (("choose", 2), ("choose", -1), ("choose", 10 ** 99), ("choose",), ("choose", 0, 0), ["choose", 0], ("Choose", 0),
                     ("pick", 0, 0), ("do", 0, (FREE,)), ("choose", "0"), ("choose", None), ("choose", (0,))):
            self.assert_unknown_move(book, first_stand(book), move)
        for move in (("pick", 0, 2), ("pick", 1, 0), ("pick", 0, -1), ("pick", -1, 0), ("pick", 0), ("pick", None, 0), ["pick", 0, 0],
                     ("pick", 0, 0, 0), ("choose", 0), ("do", 0, (FREE,))):
            self.assert_unknown_move(book, (("any", "a", DONE), ()), move)

    def test_deeds(self):
        book = one_task(Task(many=2, other=["y"]))
        stand = at("x", "x", "y")
        free, block = FREE, ("p", ("x",))
        for members in ((free, free), (free, block), (block, block)):
            after(book, stand, ("do", 0, members))
        for members in ((block, free), (free,), (free, free, free), (), (block, block, block), (free, ("p", ("y",))), (free, ("q", ())),
                        (free, ("p", ("z",))), (free, ("p", ("x", "y"))), [free, free], (free, ["p", ()]), (free, ("p", [])), (free, "p"),
                        (free, ("p",)), (free, ("p", (), ()))):
            self.assert_unknown_move(book, stand, ("do", 0, members))
        for move in (("do", 1, (free, free)), ("do", -1, (free, free)), ("do", (free, free)), ("do", 0, (free, free), 0), ("do", 0),
                     ["do", 0, (free, free)], ("pick", 0, (free, free)), (0, "do", (free, free)), ("do", None, (free, free))):
            self.assert_unknown_move(book, stand, move)

    def test_a_block_more_often_than_the_stand_has_it(self):
        self.assert_unknown_move(one_task(Vote(2)), at("x", "y"), group("x", "x"))
        self.assert_unknown_move(one_task(Vote(2)), at(), group("x", "x"))


class TestStands(StandCase):
    def test_order(self):
        """Stand after stand, and of each one the following stands of its moves in order."""
        book = Book(kinds_of("p", "q"), {"a": Task(other=["a"]), "b": Task()}, ("then", ("any", "a", "b", DONE), ("either", "b", DONE)))
        end = ("either", "b", DONE)
        first, second = (("p", ("a",)),), (("q", ("a",)),)
        self.assertEqual(stands(book), [
            (book.plan, ()), (("then", "a", end), ()), (("then", "b", end), ()), (end, ()), (end, first), (end, second),
            ("b", ()), (DONE, ()), ("b", first), (DONE, first), ("b", second), (DONE, second)])

    def test_each_stand_once(self):
        for book in (check_book(), full_book(), Book({"p": []}, {"a": Task(other=["a"])}, ("again", ("again", "a")))):
            found = stands(book)
            self.assertEqual(len(found), len(set(found)))
            self.assertEqual(found[0], first_stand(book))
            for stand in found:
                for move in moves(book, stand):
                    self.assertIn(after(book, stand, move), found)

    def test_a_new_list_at_each_call(self):
        book = check_book()
        found = stands(book)
        self.assertIs(found.__class__, list)
        self.assertIsNot(stands(book), found)
        found.clear()
        moves(book, first_stand(book)).clear()
        self.assertEqual(len(stands(book)), 4)
        self.assertEqual(len(moves(book, first_stand(book))), 1)

    def test_two_thousand_stands(self):
        self.assertEqual(len(set(stands(book_with(1999)))), 1999)
        self.assertEqual(len(set(stands(book_with(2000)))), 2000)

    def test_more_than_two_thousand_stands(self):
        endless = Book(kinds_of("a", "b", "c"), {"x": Vote(2), "y": Task(many=2, other=["x"]), "z": Task(other=["y", "z"])},
                       ("beside", ("again", ("then", *"xyzxyz")), ("again", ("then", *"zyxzyx"))))
        for book in (book_with(2001), book_with(2002), endless):
            before = state(book)
            with self.assertRaises(TooMany) as caught:
                stands(book)
            self.assertEqual(caught.exception.limit, 2000)
            self.assertEqual(state(book), before)
            self.assertTrue(moves(book, first_stand(book)))
            move = moves(book, first_stand(book))[0]
            self.assertNotEqual(after(book, first_stand(book), move), first_stand(book))
            self.assertEqual(needs(book, first_stand(book), move).total, 0)

    def test_functions_stand_in_their_file(self):
        for name in ("first_stand", "moves", "after", "needs", "stands"):
            self.assertEqual(getattr(module, name).__module__, "fewhands.stands")


def book_with(many):
    """A book with so many stands, at least 1786."""
    tasks = {"x": Vote(2), "y": Task(many=2, other=["x"]), "z": Task(other=["y", "z"])}
    main = ("beside", ("then", *"xyzxyz"), "z")
    # Each plan without tasks makes one more stand, and they end in one more.
    more = [("any",) + (DONE,) * count for count in range(1, many - 1784)]
    return Book(kinds_of("a", "b", "c"), tasks, ("either", main, *more))
