import random
import unittest

import reference
from fewhands import winning as module
from fewhands.books import Book
from fewhands.errors import InvalidWages, TooMany, UnknownKind
from fewhands.stands import first_stand, stands
from fewhands.staffs import Staff
from fewhands.tasks import HandOn, Reopen, Task, Vote
from fewhands.winning import (always, answer, attack, cheapest, fewest, greatest_losers, is_answer, is_attack, is_strategy,
                              least_staffs, strategy)
from persons import (StandGame, all_numbers, is_right_attack, is_right_strategy, least_of, small_book)
from samples import DONE, check_book, kinds_of, state, tasks_of
from test_stands import book_with
from values import many_kinds

FREE = ("p", ())
BLOCK = ("p", ("enter",))
BRANCH = ("either", "check", DONE)
FIRST = (("then", "enter", BRANCH), ())

# The strategy of two persons in the book of the examples, and the attack on one.
RIGHT = {FIRST: ("do", 0, (FREE,)), (BRANCH, (BLOCK,)): None, ("check", (BLOCK,)): ("do", 0, (FREE,)), (DONE, (BLOCK,)): None}
LOST = {FIRST: (2, None), (BRANCH, (BLOCK,)): (1, 0), ("check", (BLOCK,)): (0, None)}


def numbers_of(staffs):
    return [staff.numbers() for staff in staffs]


def changed(value, **changes):
    """A copy of a dict with other values for the stands first, branch, check and done, or without them if None is told."""
    names = {"first": FIRST, "branch": (BRANCH, (BLOCK,)), "check": ("check", (BLOCK,)), "done": (DONE, (BLOCK,))}
    new = {**value, **{names[name]: worth for name, worth in changes.items()}}
    return {stand: worth for stand, worth in new.items() if worth != "gone"}


class TestExample(unittest.TestCase):
    def test_the_example_of_the_document(self):
        check = check_book()
        shown = [fewest(check), [staff.numbers() for staff in least_staffs(check)], greatest_losers(check),
                 always(check, Staff(p=1))]
        self.assertEqual(repr(shown), "[2, [{'p': 2}], ({'p': 1},), False]")

    def test_strategy_and_attack(self):
        check = check_book()
        for many in (2, 3, 8, 9, 100, 10 ** 30):
            self.assertEqual(strategy(check, Staff(p=many)), RIGHT)
            self.assertIsNone(attack(check, Staff(p=many)))
            self.assertIs(always(check, Staff(p=many)), True)
        for many in (0, 1):
            self.assertIsNone(strategy(check, Staff(p=many)))
            self.assertIs(always(check, Staff(p=many)), False)
        self.assertEqual(attack(check, Staff(p=1)), LOST)
        self.assertEqual(attack(check, Staff()), {FIRST: (0, None)})

    def test_arguments_by_name(self):
        check, staff = check_book(), Staff(p=2)
        self.assertTrue(always(staff=staff, book=check))
        self.assertTrue(is_strategy(value=strategy(staff=staff, book=check), staff=staff, book=check))
        self.assertTrue(is_attack(value=attack(staff=Staff(p=1), book=check), staff=Staff(p=1), book=check))
        self.assertEqual(least_staffs(book=check), (staff,))
        self.assertEqual(greatest_losers(book=check), ({"p": 1},))
        self.assertTrue(is_answer(value=answer(book=check), book=check))
        self.assertEqual(fewest(book=check), 2)
        self.assertEqual(cheapest(wages={"p": 3}, book=check), (6, staff))

    def test_functions_stand_in_their_file(self):
        for name in ("always strategy attack is_strategy is_attack least_staffs greatest_losers answer is_answer fewest "
                     "cheapest").split():
            self.assertEqual(getattr(module, name).__module__, "fewhands.winning")


class TestRules(unittest.TestCase):
    """Small books with known results for the words of plans and the lists of tasks."""

    def least(self, tasks, plan, **kinds):
        return numbers_of(least_staffs(Book(kinds or {"p": []}, tasks, plan)))

    def test_words_of_plans(self):
        tasks = {"a": Task(), "b": Vote(2), "c": Vote(3)}
        self.assertEqual(self.least(tasks, DONE), [{}])
        self.assertEqual(self.least(tasks, "a"), [{"p": 1}])
        self.assertEqual(self.least(tasks, ("then", "a", "c", "b")), [{"p": 3}])
        self.assertEqual(self.least(tasks, ("either", "a", "b")), [{"p": 2}])
        self.assertEqual(self.least(tasks, ("any", "b", "c")), [{"p": 2}])
        self.assertEqual(self.least(tasks, ("any", "b", ("then", "a", "c"), "a")), [{"p": 1}])
        self.assertEqual(self.least(tasks, ("again", "b")), [{"p": 2}])
        self.assertEqual(self.least(tasks, ("beside", "b", ("then", "a", "a"))), [{"p": 2}])

    def test_the_world_may_go_on_forever(self):
        self.assertEqual(self.least(tasks_of("a"), ("again", DONE)), [{}])
        self.assertEqual(self.least(tasks_of("a"), ("again", ("either", "a", DONE))), [{"p": 1}])
        self.assertEqual(self.least({"a": Task(other=["a"])}, ("again", "a")), [{"p": 2}])

    def test_others_and_same(self):
        tasks = {"a": Task(), "b": Task(other=["a"]), "c": Task(other=["a", "b"]), "d": Task(same=["a"]), "e": Task(same=["a", "b"])}
        self.assertEqual(self.least(tasks, ("then", "a", "b")), [{"p": 2}])
        self.assertEqual(self.least(tasks, ("then", "b", "a")), [{"p": 1}])
        self.assertEqual(self.least(tasks, ("then", "a", "b", "c")), [{"p": 3}])
        self.assertEqual(self.least(tasks, ("then", "a", "d")), [{"p": 1}])
        self.assertEqual(self.least(tasks, "d"), [])
        self.assertEqual(self.least(tasks, ("then", "a", "b", "e")), [])
        self.assertEqual(self.least(tasks, ("then", "b", "a", "e")), [{"p": 1}])

    def test_takes_and_forgets(self):
        tasks = {"a": Task(), "b": Task(other=["a"]), "h": HandOn("a"), "f": Reopen("a"), "d": Task(same=["a"])}
        self.assertEqual(self.least(tasks, ("then", "a", "f", "b")), [{"p": 1}])
        self.assertEqual(self.least(tasks, ("then", "a", "f", "d")), [])
        self.assertEqual(self.least(tasks, ("then", "f", "h", "b")), [{"p": 2}])
        self.assertEqual(self.least(tasks, ("then", "h", "d")), [{"p": 1}])

    def test_blocks_need_persons(self):
        """Last doers are needed as long as they are last doers."""
        tasks = {"a": Vote(2), "b": Task(other=["a"]), "c": Task(other=["b"])}
        self.assertEqual(self.least(tasks, ("then", "a", "b", "c")), [{"p": 3}])

    def test_five_blocks_and_three_free_persons(self):
        tasks = {"a": Vote(3), "b": Task(other=["a"], many=2), "c": Vote(3, other=["a", "b"])}
        self.assertEqual(self.least(tasks, ("then", "a", "b", "c")), [{"p": 8}])
        book = Book({"p": []}, tasks, ("then", "a", "b", "c"))
        self.assertEqual(greatest_losers(book), ({"p": 7},))
        self.assertFalse(always(book, Staff(p=7)))
        self.assertTrue(always(book, Staff(p=8)))
        book = Book(kinds_of("p", "q"), tasks, ("then", "a", "b", "c"))
        self.assertEqual(numbers_of(least_staffs(book)), [Staff(p=many, q=8 - many).numbers() for many in range(9)])
        self.assertEqual(greatest_losers(book), tuple({"p": many, "q": 7 - many} for many in range(8)))

    def test_roles(self):
        tasks = {"a": Task("r"), "b": Task(), "c": Task("s")}
        kinds = {"p": ["r"], "q": [], "o": ["r", "s"]}
        self.assertEqual(self.least(tasks, "a", **kinds), [{"p": 1}, {"o": 1}])
        self.assertEqual(self.least(tasks, "b", **kinds), [{"q": 1}, {"p": 1}, {"o": 1}])
        self.assertEqual(self.least(tasks, ("then", "a", "c"), **kinds), [{"o": 1}])
        self.assertEqual(self.least(tasks, "c", p=["r"], q=[]), [])

    def test_two_kinds_that_exclude_each_other(self):
        tasks = {"a": Task("r"), "b": Task("s", other=["a"])}
        kinds = {"p": ["r"], "q": ["s"], "o": ["r", "s"]}
        self.assertEqual(self.least(tasks, ("then", "a", "b"), **kinds), [{"p": 1, "q": 1}, {"o": 1, "q": 1}, {"o": 1, "p": 1}, {"o": 2}])

    def test_a_kind_called_self(self):
        book = Book({"self": [], "p": ["r"]}, {"a": Task("r"), "b": Task(other=["a"])}, ("then", "a", "b"))
        self.assertEqual(numbers_of(least_staffs(book)), [{"p": 1, "self": 1}, {"p": 2}])
        self.assertEqual(greatest_losers(book), ({"p": 0, "self": None}, {"p": 1, "self": 0}))
        self.assertTrue(is_answer(book, answer(book)))


class TestAgainstStands(unittest.TestCase):
    """Least staffs and greatest losers beside all staffs with numbers from 0 to 8, one by one."""

    def assert_as_one_by_one(self, book, most):
        known = reference.all_stands(book, 10 ** 9)
        game = StandGame(book, known)
        staffs = all_numbers(book.kinds, most)
        good = [numbers for numbers in staffs if known[0] in game.good(numbers)]
        for numbers in staffs:
            self.assertIs(always(book, Staff.of(numbers)), numbers in good, (book.text(), numbers))
        least = [Staff.of(numbers) for numbers in least_of(good)]
        told = [staff for staff in least_staffs(book) if all(staff[kind] <= most for kind in book.kinds)]
        self.assertEqual(told, least, book.text())
        if most == 8:
            self.assertEqual(fewest(book), min([staff.total for staff in least], default=None))
        for staff in least:
            for kind in staff.kinds:
                self.assertFalse(always(book, staff - Staff.of({kind: 1})))
        self.assert_losers(book, [numbers for numbers in staffs if numbers not in good], staffs, most)
        return least

    def assert_losers(self, book, bad, staffs, most):
        losers = greatest_losers(book)
        self.assertIs(losers.__class__, tuple)
        for limits in losers:
            self.assertEqual(list(limits), sorted(book.kinds))
            for kind, limit in limits.items():
                self.assertTrue(limit is None or 0 <= limit <= 7)
                if limit is not None:
                    more = {at: 8 if number is None else number for at, number in limits.items()}
                    more[kind] += 1
                    self.assertTrue(always(book, Staff.of(more)), (book.text(), limits))
        keys = [[9 if number is None else number for number in limits.values()] for limits in losers]
        self.assertEqual(keys, sorted(keys))
        self.assertEqual(len(keys), len(set(map(tuple, keys))))
        for numbers in staffs:
            self.assertEqual(any(Staff.of(numbers).within(limits) for limits in losers), numbers in bad, (book.text(), numbers))

    def test_one_kind(self):
        made = random.Random(80)
        for _ in range(60):
            self.assert_as_one_by_one(small_book(made, ("p",)), 8)

    def test_two_kinds(self):
        made = random.Random(81)
        sizes = []
        while len(sizes) < 12:
            book = small_book(made)
            if len(book.kinds) == 2 and len(stands(book)) <= 60:
                sizes.append(len(self.assert_as_one_by_one(book, 8)))
        self.assertGreater(max(sizes), 1)

    def test_three_kinds(self):
        made = random.Random(82)
        for _ in range(12):
            book = small_book(made, ("o", "p", "q"))
            if len(stands(book)) <= 100:
                self.assert_as_one_by_one(book, 3 if len(book.kinds) == 3 else 8)

    def test_greater_numbers(self):
        made = random.Random(83)
        for _ in range(60):
            book = small_book(made)
            for numbers in all_numbers(book.kinds, 2):
                large = {kind: [0, 1, 8][number] for kind, number in numbers.items()}
                for many in (9, 100, 10 ** 30):
                    larger = {kind: many if number == 8 else number for kind, number in large.items()}
                    self.assertEqual(always(book, Staff.of(large)), always(book, Staff.of(larger)))
                    self.assertEqual(strategy(book, Staff.of(larger)), strategy(book, Staff.of(large)))
                    self.assertEqual(attack(book, Staff.of(larger)), attack(book, Staff.of(large)))


class TestStrategy(unittest.TestCase):
    def setUp(self):
        self.check = check_book()

    def assert_strategy(self, value, staff=Staff(p=2)):
        self.assertIs(is_strategy(self.check, staff, value), True, value)

    def assert_none(self, value, staff=Staff(p=2)):
        self.assertIs(is_strategy(self.check, staff, value), False, value)

    def test_the_right_one(self):
        self.assert_strategy(RIGHT)
        self.assert_strategy(dict(reversed(list(RIGHT.items()))))
        for many in (0, 1):
            self.assert_none(RIGHT, Staff(p=many))
        self.assert_strategy(RIGHT, Staff(p=10 ** 30))

    def test_stands_left_out(self):
        for name in ("first", "branch", "check", "done"):
            self.assert_none(changed(RIGHT, **{name: "gone"}))

    def test_more_stands(self):
        self.assert_none({**RIGHT, ("check", ()): ("do", 0, (FREE,))})
        self.assert_none({**RIGHT, (DONE, ()): None})
        self.assert_none({**RIGHT, "check": None})
        book = Book({"p": []}, tasks_of("a"), ("any", "a", DONE))
        right = {(("any", "a", DONE), ()): ("pick", 0, 1), (DONE, ()): None}
        self.assertTrue(is_strategy(book, Staff(), right))
        self.assertFalse(is_strategy(book, Staff(), {**right, ("a", ()): ("do", 0, (FREE,))}))
        self.assertTrue(is_strategy(book, Staff(p=1), {**right, ("a", ()): ("do", 0, (FREE,))}))

    def test_more_stands_with_more_last_doers_than_there_are_persons(self):
        """Where the plan is complete nobody is needed, but where the staff moves the last doers are."""
        book = Book({"p": []}, {"v": Vote(2), "x": Task(other=["v"])}, ("any", DONE, "v"))
        right = {(book.plan, ()): ("pick", 0, 0), (DONE, ()): None}
        blocks = (("p", ("v",)),) * 2
        self.assertTrue(is_strategy(book, Staff(), {**right, (DONE, blocks): None}))
        book.plan = ("any", DONE, ("then", "v", ("any", DONE, DONE)))
        right = {(book.plan, ()): ("pick", 0, 0), (DONE, ()): None, (DONE, blocks): None}
        for staff, is_right in ((Staff(), False), (Staff(p=1), False), (Staff(p=2), True)):
            self.assertTrue(is_strategy(book, staff, right))
            self.assertIs(is_strategy(book, staff, {**right, (("any", DONE, DONE), blocks): ("pick", 0, 1)}), is_right)

    def test_other_moves(self):
        for move in (("do", 0, (BLOCK,)), ("do", 1, (FREE,)), ("do", 0, ()), ("do", 0, (FREE, FREE)), ("pick", 0, 0), ("choose", 0),
                     None, (), "do", 0, ["do", 0, (FREE,)], ("do", 0, [FREE]), ("do", 0, (["p", ()],)), ("do", 0, (("p", []),)),
                     ("do", False, (FREE,)), ("do", None, (FREE,)), {}, {"do": 0}):
            self.assert_none(changed(RIGHT, check=move))
            self.assert_none(changed(RIGHT, first=move))
            if move is not None:
                self.assert_none(changed(RIGHT, branch=move))
                self.assert_none(changed(RIGHT, done=move))

    def test_bools_for_indexes(self):
        book = Book({"p": []}, tasks_of("a"), ("any", "a", DONE))
        right = {(("any", "a", DONE), ()): ("pick", 0, 1), (DONE, ()): None}
        self.assertTrue(is_strategy(book, Staff(), right))
        for move in (("pick", 0, True), ("pick", False, 1), ("pick", 0, 0), ("pick", 0, 2), ("pick", 0, -1)):
            self.assertFalse(is_strategy(book, Staff(), {**right, book.plan and (book.plan, ()): move}))

    def test_moves_that_need_more_persons(self):
        book = Book(kinds_of("p", "q"), {"a": Task()}, "a")
        right = {("a", ()): ("do", 0, (("p", ()),)), (DONE, ()): None}
        self.assertTrue(is_strategy(book, Staff(p=1), right))
        self.assertFalse(is_strategy(book, Staff(q=5), right))

    def test_any_values(self):
        for value in many_kinds():
            self.assert_none(value)
            self.assert_none([value])
            self.assert_none(changed(RIGHT, check=value))
            self.assert_none(changed(RIGHT, first=value))
            if value is not None:
                self.assert_none(changed(RIGHT, branch=value))
            try:
                extended = {**RIGHT, value: None}
            except TypeError:
                continue
            self.assert_none(extended)
        for key in ((FIRST[0], []), (FIRST[0],), FIRST + ((),), (FIRST[0], ((),)), ((DONE,), ()), (DONE, (BLOCK, BLOCK))):
            if not isinstance(key[-1], list):
                self.assert_none({**RIGHT, key: None})

    def test_a_new_dict_at_each_call(self):
        found = strategy(self.check, Staff(p=2))
        found.clear()
        self.assertEqual(strategy(self.check, Staff(p=2)), RIGHT)
        found = attack(self.check, Staff(p=1))
        found.clear()
        self.assertEqual(attack(self.check, Staff(p=1)), LOST)
        limits = greatest_losers(self.check)[0]
        limits["p"] = 5
        self.assertEqual(greatest_losers(self.check), ({"p": 1},))
        told = answer(self.check)
        told[0][0][1].clear()
        told[1][0][0].clear()
        self.assertTrue(is_answer(self.check, answer(self.check)))


class TestAttack(unittest.TestCase):
    def setUp(self):
        self.check = check_book()

    def assert_attack(self, value, staff=Staff(p=1)):
        self.assertIs(is_attack(self.check, staff, value), True, value)

    def assert_none(self, value, staff=Staff(p=1)):
        self.assertIs(is_attack(self.check, staff, value), False, value)

    def test_the_right_one(self):
        self.assert_attack(LOST)
        self.assert_attack(dict(reversed(list(LOST.items()))))
        self.assert_none(LOST, Staff(p=2))
        self.assert_attack(LOST, Staff())
        self.assert_none({FIRST: (0, None)})
        self.assert_attack({FIRST: (0, None)}, Staff())

    def test_ranks(self):
        big = 10 ** 99
        self.assert_attack(changed(LOST, first=(big, None), branch=(big - 1, 0), check=(big - 2, None)))
        self.assert_attack(changed(LOST, first=(10 ** 300, None), branch=(77, 0)))
        for ranks in ((0, 1, 2), (1, 1, 0), (2, 1, 1), (2, 2, 1), (2, 0, 0), (1, 2, 0), (2, 1, -1), (2, 1, True), (2, True, 0), (True, 1, 0),
                      (2, 1, False), (2, 1, None), (2, 1, "0"), (2, 1, ()), ("2", 1, 0), (2, None, 0), (-1, -2, -3)):
            first, branch, check = ranks
            self.assert_none(changed(LOST, first=(first, None), branch=(branch, 0), check=(check, None)))

    def test_indexes(self):
        for index in (1, 2, -1, None, False, True, "0", (), 10 ** 99):
            self.assert_none(changed(LOST, branch=(1, index)))
        for index in (0, 1, False, "", ()):
            self.assert_none(changed(LOST, check=(0, index)))
            self.assert_none(changed(LOST, first=(2, index)))
        book = Book({"p": []}, tasks_of("a"), ("either", DONE, "a"))
        right = {first_stand(book): (1, 1), ("a", ()): (0, None)}
        self.assertTrue(is_attack(book, Staff(), right))
        self.assertFalse(is_attack(book, Staff(), {**right, first_stand(book): (1, True)}))

    def test_stands(self):
        for name in ("first", "branch", "check"):
            self.assert_none(changed(LOST, **{name: "gone"}))
        self.assert_none(changed(LOST, done=(0, None)))
        self.assert_none(changed(LOST, done=(0, 0)))
        self.assert_none({**LOST, ("check", ()): (0, None)}, Staff())
        self.assert_none({**LOST, ("check", ()): (0, None)})

    def test_more_stands_that_are_right(self):
        book = Book({"p": []}, tasks_of("a"), ("any", "a", ("either", "a", "a")))
        attacked = attack(book, Staff())
        self.assertEqual(len(attacked), 3)
        book = Book({"p": []}, tasks_of("a", "b"), ("either", "a", ("then", "b", "b")))
        right = {(book.plan, ()): (5, 0), ("a", ()): (0, None)}
        self.assertTrue(is_attack(book, Staff(), right))
        self.assertTrue(is_attack(book, Staff(), {**right, (("then", "b", "b"), ()): (9, None)}))
        self.assertTrue(is_attack(book, Staff(), {**right, (("then", "b", "b"), ()): (9, None), ("b", ()): (9, None)}))
        self.assertFalse(is_attack(book, Staff(), {**right, (("then", "b", "b"), ()): (9, 0)}))

    def test_any_values(self):
        for value in many_kinds():
            self.assert_none(value)
            self.assert_none(changed(LOST, check=value))
            self.assert_none(changed(LOST, branch=(value, 0)) if value != 1 or value is True else {})
            if value is not None:
                self.assert_none(changed(LOST, check=(0, value)))
            try:
                extended = {**LOST, value: (0, None)}
            except TypeError:
                continue
            self.assert_none(extended)
        for worth in ([0, None], (0,), (0, None, None), 0, None):
            self.assert_none(changed(LOST, check=worth))


class TestRandomStrategies(unittest.TestCase):
    """What is told and what is made of it by changes, beside a second writing of what is right."""

    def test_strategies_and_attacks(self):
        made = random.Random(84)
        right = wrong = 0
        for _ in range(150):
            book = small_book(made)
            known = stands(book)
            if len(known) > 80:
                continue
            for _ in range(4):
                staff = Staff.of({kind: made.randint(0, 3) for kind in book.kinds})
                plan, ranks = strategy(book, staff), attack(book, staff)
                self.assertEqual(plan is None, ranks is not None)
                told, check, check_again = (ranks, is_attack, is_right_attack) if plan is None else (plan, is_strategy, is_right_strategy)
                self.assertTrue(check(book, staff, told))
                self.assertTrue(check_again(book, staff, told, known), (book.text(), staff.numbers(), told))
                for _ in range(6):
                    value = self.drawn(made, book, known, dict(told), plan is None)
                    other = made.choice([staff, staff, Staff.of({kind: made.randint(0, 3) for kind in book.kinds})])
                    found = check(book, other, value)
                    self.assertIs(found, check_again(book, other, value, known), (book.text(), other.numbers(), value))
                    right, wrong = right + found, wrong + (not found)
        self.assertGreater(right, 200)
        self.assertGreater(wrong, 200)

    def drawn(self, made, book, known, value, is_lost):
        """A strategy or an attack after one or two drawn changes."""
        for _ in range(made.randint(1, 2)):
            stand = made.choice(known) if made.random() < 0.5 else made.choice(list(value) or known)
            moves = [move for move, _ in reference.stand_moves(book, stand)]
            if is_lost:
                worth = (made.choice([0, 1, 2, 5, 50, True, -1]), made.choice([None, None, 0, 1, False]))
            elif moves and moves[0][0] != "choose":
                worth = made.choice(moves + [None])
            else:
                worth = None
            if stand in value and made.random() < 0.3:
                del value[stand]
            else:
                value[stand] = worth
        return value


class TestAnswer(unittest.TestCase):
    def setUp(self):
        self.check = check_book()
        self.winner, self.loser = (Staff(p=2), RIGHT), ({"p": 1}, LOST)

    def assert_answer(self, *value):
        self.assertIs(is_answer(self.check, value), True, value)

    def assert_none(self, *value):
        self.assertIs(is_answer(self.check, value), False, value)

    def test_the_told_answer(self):
        self.assertEqual(answer(self.check), ((self.winner,), (self.loser,)))
        self.assert_answer((self.winner,), (self.loser,))

    def test_more_than_necessary(self):
        self.assert_answer((self.winner, self.winner), (self.loser, self.loser))
        self.assert_answer(((Staff(p=7), RIGHT), self.winner), (({"p": 0}, {FIRST: (0, None)}), self.loser))
        self.assert_answer(((Staff(p=10 ** 30), RIGHT), self.winner), (({"p": 0}, LOST), self.loser))

    def test_less_than_necessary(self):
        self.assert_none((), (self.loser,))
        self.assert_none((self.winner,), ())
        self.assert_none((), ())
        self.assert_none(((Staff(p=3), RIGHT),), (self.loser,))
        self.assert_none(((Staff(p=9), RIGHT),), (self.loser,))
        self.assert_none((self.winner,), (({"p": 0}, LOST),))

    def test_wrong_parts(self):
        for winner in ((Staff(p=1), RIGHT), (Staff(p=2), LOST), (Staff(p=2), None), (Staff(p=2), {}), (Staff(p=2, q=1), RIGHT), (Staff(q=1), RIGHT),
                       ({"p": 2}, RIGHT), [Staff(p=2), RIGHT], (Staff(p=2),), (Staff(p=2), RIGHT, RIGHT), (None, RIGHT), (2, RIGHT), (RIGHT, Staff(p=2))):
            self.assert_none((winner,), (self.loser,))
            self.assert_none((self.winner, winner), (self.loser,))
        for limits in ({"p": 2}, {"p": 8}, {"p": -1}, {"p": True}, {"p": False}, {"p": None}, {}, {"q": 1}, {"p": 1, "q": 1}, {"p": 1, "q": None},
                       {"p": "1"}, {1: "p"}, None, 1, "p", (("p", 1),), [("p", 1)], Staff(p=1), {None: 1}, {"p": 10 ** 99}, {"p": (1,)}, {("p",): 1}):
            self.assert_none((self.winner,), ((limits, LOST),))
            self.assert_none((self.winner,), (self.loser, (limits, LOST)))
        for ranks in (RIGHT, {}, None, changed(LOST, check="gone"), changed(LOST, branch=(5, 0))):
            self.assert_none((self.winner,), (({"p": 1}, ranks),))
        for loser in ([{"p": 1}, LOST], ({"p": 1},), ({"p": 1}, LOST, None), (), None, {"p": 1}):
            self.assert_none((self.winner,), (loser,))

    def test_lists_for_tuples(self):
        self.assert_none([self.winner], (self.loser,))
        self.assert_none((self.winner,), [self.loser])
        self.assertIs(is_answer(self.check, [(self.winner,), (self.loser,)]), False)

    def test_any_values(self):
        for value in many_kinds():
            self.assertIs(is_answer(self.check, value), False)
            self.assert_none(value)
            self.assert_none(value, value)
            self.assert_none((self.winner,), (self.loser,), value)
            self.assert_none((self.winner, value), (self.loser,))
            self.assert_none((self.winner,), (self.loser, value))
            self.assert_none((self.winner, (value, RIGHT)), (self.loser,))
            self.assert_none((self.winner, (Staff(p=2), value)), (self.loser,))
            if value != {"p": 1}:
                self.assert_none((self.winner,), (self.loser, (value, LOST)))
            self.assert_none((self.winner,), (self.loser, ({"p": 1}, value)))
            self.assert_none((self.winner,), (self.loser, ({"p": value}, LOST)) if value is True or value not in (0, 1) else ())

    def test_every_staff_and_no_staff(self):
        book = Book(kinds_of("p", "q"), {"a": Task(same=["a"])}, DONE)
        self.assertEqual(answer(book), (((Staff(), {(DONE, ()): None}),), ()))
        self.assertEqual((least_staffs(book), greatest_losers(book), fewest(book)), ((Staff(),), (), 0))
        self.assertTrue(is_answer(book, answer(book)))
        book = Book(kinds_of("p", "q"), {"a": Task(same=["a"])}, "a")
        self.assertEqual(answer(book), ((), (({"p": None, "q": None}, {("a", ()): (0, None)}),)))
        self.assertEqual((least_staffs(book), greatest_losers(book), fewest(book)), ((), ({"p": None, "q": None},), None))
        self.assertTrue(is_answer(book, answer(book)))
        self.assertTrue(is_answer(book, ((), (({"q": None, "p": None}, {("a", ()): (0, None)}),))))

    def test_limits_without_a_number(self):
        book = Book({"p": ["r"], "q": []}, {"a": Task("r"), "b": Task()}, ("then", "a", "b"))
        self.assertEqual(greatest_losers(book), ({"p": 0, "q": None},))
        winners, losers = answer(book)
        self.assertTrue(is_answer(book, (winners, losers)))
        lost = losers[0][1]
        for many in range(8):
            self.assertFalse(is_answer(book, (winners, (({"p": 0, "q": many}, lost),))))
            self.assertTrue(is_answer(book, (winners, (({"p": 0, "q": many}, lost),) + losers)))

    def test_limits_of_several_kinds(self):
        """Each of the limits is looked at, also where the attack would be right."""
        book = Book(kinds_of("p", "q"), {"a": Task(same=["a"])}, "a")
        lost, told = {("a", ()): (0, None)}, {"p": None, "q": None}
        for limits, is_right in (({"p": 0, "q": 0}, True), ({"p": 7, "q": None}, True), ({"p": 8, "q": None}, False), ({"p": None, "q": 8}, False),
                                 ({"p": 9, "q": 9}, False), ({"p": None, "q": -1}, False), ({"p": True, "q": None}, False), ({"p": None, "q": False}, False),
                                 ({"p": "1", "q": 1}, False), ({"p": 1, "q": (1,)}, False), ({"p": 1}, False), ({"p": 1, "q": 1, "r": 1}, False)):
            self.assertIs(is_answer(book, ((), ((told, lost), (limits, lost)))), is_right, limits)

    def test_random_books(self):
        made = random.Random(85)
        for _ in range(150):
            book = small_book(made, ("p", "q", "o"))
            winners, losers = answer(book)
            self.assertEqual([staff for staff, _ in winners], list(least_staffs(book)))
            self.assertEqual([limits for limits, _ in losers], list(greatest_losers(book)))
            self.assertTrue(is_answer(book, (winners, losers)))
            self.assertTrue(is_answer(book, (winners[::-1], losers[::-1])))
            for at in range(len(winners)):
                self.assertFalse(is_answer(book, (winners[:at] + winners[at + 1:], losers)))
            for at in range(len(losers)):
                self.assertFalse(is_answer(book, (winners, losers[:at] + losers[at + 1:])))


class TestCheapest(unittest.TestCase):
    def setUp(self):
        self.book = Book({"p": ["r"], "q": [], "o": ["r"]}, {"a": Task("r"), "b": Task(other=["a"])}, ("then", "a", "b"))

    def test_wages(self):
        self.assertEqual(fewest(self.book), 2)
        for wages, cost, staff in (
            ({"p": 5, "q": 2, "o": 6}, 7, Staff(p=1, q=1)), ({"q": 6, "o": 5, "p": 7}, 10, Staff(o=2)), ({"o": 3, "p": 1, "q": 2}, 2, Staff(p=2)),
            ({"p": 10 ** 30, "q": 10 ** 30 - 1, "o": 10 ** 30}, 2 * 10 ** 30 - 1, None), ({"p": 0, "q": 0, "o": 0}, 0, None),
            ({"p": 4, "q": 4, "o": 4}, 8, None), ({"p": 3, "q": 0, "o": 10 ** 30}, 3, Staff(p=1, q=1)),
        ):
            told = cheapest(self.book, wages)
            self.assertIs(told.__class__, tuple)
            self.assertEqual(told[0], cost)
            self.assertTrue(always(self.book, told[1]))
            self.assertEqual(sum(wages[kind] * told[1][kind] for kind in wages), cost)
            if staff is not None:
                self.assertEqual(told[1], staff)

    def test_the_least_of_all(self):
        made = random.Random(86)
        for _ in range(60):
            book = small_book(made)
            wages = {kind: made.choice([0, 1, 2, 7, 100]) for kind in book.kinds}
            costs = [sum(wages[kind] * numbers[kind] for kind in wages) for numbers in all_numbers(book.kinds, 8)
                     if always(book, Staff.of(numbers))]
            totals = [sum(numbers.values()) for numbers in all_numbers(book.kinds, 8) if always(book, Staff.of(numbers))]
            told = cheapest(book, wages)
            self.assertEqual(None if told is None else told[0], min(costs, default=None))
            self.assertEqual(fewest(book), min(totals, default=None))
            if told is not None:
                self.assertTrue(always(book, told[1]))

    def test_the_fewest_persons(self):
        """One person who can do both, or two who can do one task each."""
        book = Book({"o": ["r", "s"], "p": ["r"], "q": ["s"]}, {"a": Task("r"), "b": Task("s")}, ("then", "a", "b"))
        self.assertEqual(numbers_of(least_staffs(book)), [{"p": 1, "q": 1}, {"o": 1}])
        self.assertEqual(fewest(book), 1)
        self.assertEqual(cheapest(book, {"o": 3, "p": 1, "q": 1}), (2, Staff(p=1, q=1)))
        self.assertEqual(cheapest(book, {"o": 3, "p": 2, "q": 2}), (3, Staff(o=1)))

    def test_nobody(self):
        book = Book(kinds_of("p"), {"a": Task(same=["a"])}, "a")
        self.assertIsNone(cheapest(book, {"p": 1}))
        book.plan = DONE
        self.assertEqual(cheapest(book, {"p": 1}), (0, Staff()))

    def test_invalid_wages(self):
        for value in [{}, {"p": 1, "q": 1}, {"p": 1, "q": 1, "o": 1, "n": 1}, {"p": 1, "q": 1, "n": 1}, {"p": -1, "q": 1, "o": 1},
                      {"p": 1, "q": 10 ** 30 + 1, "o": 1}, {"p": 1, "q": 1, "o": True}, {"p": 1, "q": 1, "o": False}, {"p": 1, "q": "1", "o": 1},
                      {"p": 1, "q": None, "o": 1}, {"p": 1, "q": (1,), "o": 1}, {"p": 1, "q": 1, None: 1}, {"p": 1, "q": 1, 1: 1},
                      [("p", 1), ("q", 1), ("o", 1)], (1, 1, 1), Staff(p=1, q=1, o=1)] + many_kinds():
            with self.assertRaises(InvalidWages, msg=repr(value)) as caught:
                cheapest(self.book, value)
            self.assertIs(caught.exception.value, value)
        for value in many_kinds():
            if value.__class__ is not int or not 0 <= value <= 10 ** 30:
                with self.assertRaises(InvalidWages):
                    cheapest(self.book, {"p": 1, "q": 1, "o": value})

    def test_wages_are_not_changed(self):
        wages = {"q": 1, "p": 2, "o": 3}
        cheapest(self.book, wages)
        self.assertEqual(list(wages.items()), [("q", 1), ("p", 2), ("o", 3)])


class TestErrors(unittest.TestCase):
    def test_unknown_kinds(self):
        check = check_book()
        before = state(check)
        for staff, kind in ((Staff(q=1), "q"), (Staff(p=5, b=1, z=2), "b"), (Staff(z=1, q=2, p=1), "q")):
            for call in (lambda: always(check, staff), lambda: strategy(check, staff), lambda: attack(check, staff),
                         lambda: is_strategy(check, staff, None), lambda: is_attack(check, staff, None),
                         lambda: is_strategy(check, staff, RIGHT), lambda: is_attack(check, staff, LOST)):
                with self.assertRaises(UnknownKind) as caught:
                    call()
                self.assertEqual(caught.exception.value, kind)
        self.assertTrue(always(check, Staff(p=2, q=0)))
        self.assertEqual(state(check), before)

    def test_too_many_stands_ahead_of_all(self):
        book, staff = book_with(2001), Staff(nobody=1)
        for call in (lambda: always(book, staff), lambda: strategy(book, staff), lambda: attack(book, staff),
                     lambda: is_strategy(book, staff, None), lambda: is_attack(book, staff, None), lambda: least_staffs(book),
                     lambda: greatest_losers(book), lambda: answer(book), lambda: is_answer(book, None), lambda: fewest(book),
                     lambda: cheapest(book, None)):
            with self.assertRaises(TooMany) as caught:
                call()
            self.assertEqual(caught.exception.limit, 2000)

    def test_two_thousand_stands(self):
        book = book_with(2000)
        self.assertTrue(is_answer(book, answer(book)))
        staff = least_staffs(book)[0]
        self.assertTrue(is_strategy(book, staff, strategy(book, staff)))
        self.assertTrue(is_attack(book, Staff(a=1), attack(book, Staff(a=1))))
        self.assertEqual(cheapest(book, {"a": 1, "b": 1, "c": 1})[0], fewest(book))


class TestChangedBooks(unittest.TestCase):
    def test_what_is_told_is_about_the_book_as_it_is(self):
        check = check_book()
        copy = check.copied()
        self.assertEqual(fewest(check), 2)
        check["check"] = Task()
        self.assertEqual((fewest(check), fewest(copy)), (1, 2))
        self.assertTrue(always(check, Staff(p=1)))
        check |= {"check": Task(same=["check"])}
        self.assertEqual((fewest(check), fewest(copy)), (None, 2))
        self.assertFalse(is_strategy(check, Staff(p=2), RIGHT))
        check.plan = "enter"
        self.assertEqual(fewest(check), 1)
        check.set_plan(DONE)
        self.assertEqual((fewest(check), fewest(copy)), (0, 2))
        check.take("check")
        self.assertEqual(least_staffs(check), (Staff(),))
        copy.plan = ("then", "enter", "check", "check")
        self.assertEqual((fewest(check), fewest(copy)), (0, 2))
        self.assertNotIn(FIRST, strategy(copy, Staff(p=2)))


if __name__ == "__main__":
    unittest.main()
