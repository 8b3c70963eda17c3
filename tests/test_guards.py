import itertools
import random
import unittest

import reference
from fewhands import guards as module
from fewhands.bands import barrier, least_bands, smallest
from fewhands.books import Book
from fewhands.errors import InvalidPrices, OutOfRange, TooMany, UnknownKind, UnknownTask
from fewhands.guards import bars, cheapest_guard, conditions, guards, is_bars, needless, with_choice
from fewhands.stands import stands
from fewhands.staffs import Staff
from fewhands.tasks import HandOn, Reopen, Task, Vote
from fewhands.winning import always, attack, least_staffs
from persons import is_cast_run, is_right_attack, is_right_barrier, small_book
from samples import DONE, check_book, full_book, kinds_of, state, tasks_of
from test_stands import book_with
from values import many_kinds

OTHER, SAME = ("check", "other", "enter"), ("check", "same", "enter")


def subsets(prices):
    """All choices of options with prices, with their costs."""
    options = sorted(prices)
    return [(sum(prices[option] for option in choice), choice)
            for many in range(len(options) + 1) for choice in itertools.combinations(options, many)]


def does_guard(book, choice, hands, staff):
    """Whether a choice guards, by the words of the document."""
    changed = with_choice(book, choice)
    least = smallest(changed)
    return least is not None and least >= hands and (staff is None or always(changed, staff))


def is_right_bar(book, prices, hands, staff, bar):
    word, first, second = bar
    if word == "band":
        return len(first) < hands and is_cast_run(book, first, second)
    if first != tuple(sorted(set(first))) or any(option not in prices for option in first):
        return False
    changed = with_choice(book, first)
    if word == "never":
        return is_right_barrier(changed, Staff.of({kind: 8 for kind in book.kinds}), second, stands(changed))
    return word == "lost" and staff is not None and is_right_attack(changed, staff, second, stands(changed))


def is_barred(book, bar, choice):
    word, first, second = bar
    return is_cast_run(with_choice(book, choice), first, second) if word == "band" else set(first) <= set(choice)


def are_right_bars(book, prices, hands, staff, cost, value):
    return all(is_right_bar(book, prices, hands, staff, bar) for bar in value) and all(
        any(is_barred(book, bar, choice) for bar in value) for price, choice in subsets(prices) if price < cost)


def drawn_prices(made, book, words=("other", "other", "same")):
    """Prices of up to four options of a book, such that it stays within its limits with all of them."""
    while True:
        known = conditions(book)
        options = [(task, word, name) for task in book.names for word in words for name in book.names + ("x",)]
        options = [option for option in options if option not in known]
        prices = {option: made.choice([1, 1, 2, 3, 10]) for option in made.sample(options, min(len(options), made.randint(1, 4)))}
        try:
            with_choice(book, tuple(sorted(prices)))
            return prices
        except TooMany:
            pass


class TestConditions(unittest.TestCase):
    def test_ascending(self):
        self.assertEqual(conditions(check_book()), (OTHER,))
        tasks = {"b": Task(other=["z", "a"], same=["y", "a"]), "a": Task(same=["a"]), "c": HandOn("a"), "d": Reopen("a"), "e": Vote(2, other=["a"])}
        book = Book({"p": []}, {name: task for name, task in tasks.items()}, "a")
        self.assertEqual(conditions(book), (("a", "same", "a"), ("b", "other", "a"), ("b", "other", "z"), ("b", "same", "a"), ("b", "same", "y"),
                                            ("e", "other", "a")))
        self.assertEqual(conditions(Book({"p": []}, {}, DONE)), ())
        self.assertEqual(list(conditions(full_book())), sorted(conditions(full_book())))

    def test_with_choice(self):
        check = check_book()
        before = state(check)
        changed = with_choice(check, (("enter", "other", "check"), ("enter", "other", "zz"), ("enter", "same", "enter")))
        self.assertEqual(state(check), before)
        self.assertIsNot(changed, check)
        self.assertEqual(changed["enter"], Task(other=["check", "zz"], same=["enter"]))
        self.assertEqual(changed["check"], check["check"])
        self.assertEqual(changed.remembered, ("check", "enter", "zz"))
        self.assertEqual(changed.plan, check.plan)
        self.assertEqual(changed.kinds, check.kinds)
        changed.plan = DONE
        self.assertEqual(state(check), before)

    def test_other_properties_stay(self):
        book = Book({"p": ["r"]}, {"a": Task("r", many=2, other=["a"], takes=["a"], forgets=["b"]), "b": Vote(2)}, "a")
        changed = with_choice(book, (("a", "other", "b"), ("b", "same", "a")))
        self.assertEqual(changed["a"], Task("r", many=2, other=["a", "b"], takes=["a"], forgets=["b"]))
        self.assertEqual(changed["b"], Task(many=2, same=["a"]))

    def test_conditions_that_the_book_has_already(self):
        check = check_book()
        self.assertEqual(with_choice(check, ()), check)
        self.assertEqual(with_choice(check, (OTHER,)), check)
        self.assertEqual(with_choice(check, (OTHER, SAME))["check"], Task(other=["enter"], same=["enter"]))

    def test_errors(self):
        check = check_book()
        for choice, task in (((("aa", "other", "x"), ("zz", "other", "x")), "aa"), ((OTHER, ("zz", "same", "x")), "zz"),
                             ((("zz", "other", "a"), ("zz", "other", "b"), ("zz", "other", "c"), ("zz", "other", "d")), "zz")):
            with self.assertRaises(UnknownTask) as caught:
                with_choice(check, choice)
            self.assertEqual(caught.exception.value, task)
        with self.assertRaises(TooMany) as caught:
            with_choice(check, (("check", "other", "a"), ("check", "other", "b"), ("check", "same", "c")))
        self.assertEqual(caught.exception.limit, 3)
        book = Book({"p": []}, {"a": Vote(3), "b": Vote(3), "c": Task(other=["a"])}, "a")
        with self.assertRaises(TooMany) as caught:
            with_choice(book, (("c", "other", "b"),))
        self.assertEqual(caught.exception.limit, 5)
        # With more than 2,000 stands, too.
        many = book_with(2001)
        self.assertEqual(len(conditions(many)), 3)
        self.assertEqual(with_choice(many, ()), many)


class TestNeedless(unittest.TestCase):
    def test_which_staffs_change(self):
        tasks = {"a": Task(), "b": Task(other=["a"]), "c": Task(other=["a"]), "n": Task(other=["b"])}
        book = Book({"p": []}, tasks, ("then", "a", ("either", "b", "c"), "a"))
        # Whoever does b or c must be another person than the first one; either of these conditions is enough for the
        # staffs that always complete, but both together for the bands.
        self.assertEqual(needless(book), (("n", "other", "b"),))
        book.plan = ("then", "a", ("either", "b", ("then", "c", DONE), DONE))
        self.assertEqual(needless(book), (("b", "other", "a"), ("c", "other", "a"), ("n", "other", "b")))
        book.plan = ("then", "a", "b")
        self.assertEqual(needless(book), (("c", "other", "a"), ("n", "other", "b")))

    def test_least_staffs_alone(self):
        book = check_book()
        self.assertEqual(needless(book), ())
        changed = Book({"p": []}, {"enter": Task(), "check": Task()}, book.plan)
        self.assertEqual(least_bands(book), least_bands(changed))
        self.assertNotEqual(least_staffs(book), least_staffs(changed))

    def test_least_bands_alone(self):
        """What nobody can always complete can be harder for those who choose."""
        tasks = {"a": Task(), "b": Task(other=["a"]), "n": Task(same=["n"])}
        book = Book({"p": []}, tasks, ("then", "a", "b", ("either", "n", DONE)))
        self.assertEqual(least_staffs(book), ())
        self.assertEqual(needless(book), ())
        changed = Book({"p": []}, {**tasks, "b": Task()}, book.plan)
        self.assertEqual(least_staffs(changed), ())
        self.assertNotEqual(least_bands(book), least_bands(changed))

    def test_each_alone(self):
        """Two conditions of which one is enough: each can be dropped, but not both."""
        tasks = {"a": Task(), "b": Task(other=["a"]), "c": Task(other=["a"])}
        book = Book({"p": []}, tasks, ("then", "a", "b", "c"))
        self.assertEqual(needless(book), (("b", "other", "a"), ("c", "other", "a")))
        self.assertEqual(smallest(Book({"p": []}, tasks_of("a", "b", "c"), book.plan)), 1)
        self.assertEqual(smallest(book), 2)

    def test_other_and_same_of_one_name(self):
        """Only one of both is dropped."""
        tasks = {"a": Task("r"), "b": Task("s", other=["a"], same=["a"])}
        book = Book({"p": ["r"], "q": ["s"]}, tasks, ("then", "a", "b"))
        self.assertEqual(needless(book), (("b", "other", "a"),))
        tasks = {"a": Task(), "b": Task(other=["a"], same=["a"]), "v": Vote(2)}
        book = Book({"p": []}, tasks, ("then", "a", ("any", "b", "v")))
        self.assertEqual(needless(book), (("b", "same", "a"),))

    def test_drawn_books(self):
        made = random.Random(130)
        seen = 0
        for _ in range(80):
            book = small_book(made)
            before = state(book)
            found = needless(book)
            self.assertEqual(state(book), before)
            self.assertIs(found.__class__, tuple)
            for condition in conditions(book):
                task, word, name = condition
                lists = {"other": list(book[task].other), "same": list(book[task].same)}
                lists[word].remove(name)
                less = book.copied()
                less[task] = Task(book[task].role, many=book[task].many, takes=book[task].takes, forgets=book[task].forgets, **lists)
                alike = least_staffs(less) == least_staffs(book) and least_bands(less) == least_bands(book)
                self.assertEqual(condition in found, alike, (book.text(), condition))
                seen += alike
            self.assertEqual(list(found), [one for one in conditions(book) if one in found])
        self.assertGreater(seen, 30)


class TestGuards(unittest.TestCase):
    def test_by_hand(self):
        check = check_book()
        self.assertTrue(guards(check, (), 0))
        self.assertTrue(guards(check, (), 1))
        self.assertFalse(guards(check, (), 2))
        self.assertTrue(guards(check, (), 1, Staff(p=2)))
        self.assertFalse(guards(check, (), 1, Staff(p=1)))
        check.plan = ("then", "enter", "check")
        self.assertTrue(guards(check, (), 2))
        self.assertTrue(guards(check, (OTHER,), 2, Staff(p=2)))
        self.assertFalse(guards(check, (), 3))
        self.assertFalse(guards(check, (SAME,), 0))
        self.assertFalse(guards(check, (SAME,), 2))

    def test_the_cheapest(self):
        tasks = {"a": Task(), "b": Task(), "c": Task()}
        book = Book({"p": []}, tasks, ("then", "a", "b", "c"))
        prices = {("b", "other", "a"): 5, ("c", "other", "a"): 4, ("c", "other", "b"): 3, ("b", "same", "a"): 1}
        self.assertEqual(cheapest_guard(book, prices, 0), (0, ()))
        self.assertEqual(cheapest_guard(book, prices, 1), (0, ()))
        self.assertEqual(cheapest_guard(book, prices, 2), (3, (("c", "other", "b"),)))
        self.assertEqual(cheapest_guard(book, prices, 3), (12, (("b", "other", "a"), ("c", "other", "a"), ("c", "other", "b"))))
        self.assertIsNone(cheapest_guard(book, prices, 4))
        self.assertIsNone(cheapest_guard(book, prices, 20))
        self.assertEqual(cheapest_guard(book, prices, 2, Staff(p=2)), (3, (("c", "other", "b"),)))
        self.assertIsNone(cheapest_guard(book, prices, 3, Staff(p=2)))
        self.assertIsNone(cheapest_guard(book, prices, 0, Staff()))
        big = {option: price * 10 ** 29 for option, price in prices.items()}
        self.assertEqual(cheapest_guard(book, big, 3)[0], 12 * 10 ** 29)

    def test_the_smallest_of_several_least_staffs(self):
        """One person who can do both tasks, or two who can do one each: with one pair of hands all can be done."""
        book = Book({"o": ["r", "s"], "p": ["r"], "q": ["s"]}, {"a": Task("r"), "b": Task("s")}, ("then", "a", "b"))
        self.assertEqual([guards(book, (), hands) for hands in range(4)], [True, True, False, False])
        self.assertEqual(cheapest_guard(book, {("b", "other", "a"): 7}, 2), (7, (("b", "other", "a"),)))
        found = bars(book, {("b", "other", "a"): 7}, 2, None, 7)
        self.assertEqual([bar[:2] for bar in found], [("band", ("o",))])
        self.assertIsNone(bars(book, {("b", "other", "a"): 7}, 2, None, 8))

    def test_choices_that_nobody_can_keep(self):
        book = Book({"p": []}, {"a": Task(), "b": Task(other=["a"])}, ("then", "a", "b"))
        self.assertIsNone(cheapest_guard(book, {("b", "same", "a"): 1}, 3))
        self.assertIsNone(cheapest_guard(Book({"p": []}, {"a": Task(same=["a"])}, "a"), {("a", "other", "a"): 1}, 0))

    def test_all_choices(self):
        made = random.Random(131)
        seen = []
        for _ in range(300):
            book = small_book(made)
            prices = drawn_prices(made, book, words=("other", "other", "other", "other", "same"))
            before = state(book), dict(prices)
            for hands in [made.choice([0, 1, 2, 3, 5, 20]), (smallest(book) or 0) + 1]:
                staff = made.choice([None, None, Staff.of({kind: made.randint(0, 4) for kind in book.kinds})])
                good = [(cost, choice) for cost, choice in subsets(prices) if does_guard(book, choice, hands, staff)]
                found = cheapest_guard(book, prices, hands, staff)
                self.assertEqual(None if found is None else found[0], min([cost for cost, _ in good], default=None), (book.text(), prices, hands))
                if found is not None:
                    self.assertIn(found, good)
                seen.append(found)
                for _, choice in made.sample(subsets(prices), 2):
                    self.assertIs(guards(book, choice, hands, staff), does_guard(book, choice, hands, staff))
                self.assert_bars(made, book, prices, hands, staff, good)
            self.assertEqual((state(book), prices), before)
        self.assertGreater(seen.count(None), 50)
        self.assertGreater(len([1 for one in seen if one is not None and one[0] > 0]), 15)

    def assert_bars(self, made, book, prices, hands, staff, good):
        for cost in {0, -1, 1, 2, made.randint(1, 12), min([cost for cost, _ in good], default=100), sum(prices.values()) + 1}:
            found = bars(book, prices, hands, staff, cost)
            if any(price < cost for price, _ in good):
                self.assertIsNone(found)
                self.assertFalse(is_bars(book, prices, hands, staff, cost, []))
            else:
                self.assertTrue(are_right_bars(book, prices, hands, staff, cost, found), (book.text(), prices, hands, cost, found))
                self.assertIs(is_bars(book, prices, hands, staff, cost, found), True)


class TestPrices(unittest.TestCase):
    def calls(self, book, prices, hands=1, staff=None):
        return [lambda: cheapest_guard(book, prices, hands, staff), lambda: bars(book, prices, hands, staff, 1),
                lambda: is_bars(book, prices, hands, staff, 1, [])]

    def assert_invalid(self, prices, book=None, hands=1, staff=None):
        for call in self.calls(check_book() if book is None else book, prices, hands, staff):
            with self.assertRaises(InvalidPrices, msg=repr(prices)) as caught:
                call()
            self.assertIs(caught.exception.value, prices)

    def test_options(self):
        six = {("enter", word, name): 1 for word in ("other", "same") for name in ("enter", "check", "x")}
        self.assert_invalid(six)
        self.assert_invalid({})
        for option in (OTHER, ("check", "Other", "x"), ("check", "takes", "x"), ("check", "", "x"), ("zz", "other", "x"), ("check", "other", "X"),
                       ("check", "other", ""), ("check", "other", "ninechars"), ("check", "other", None), ("check", None, "x"), (None, "other", "x"),
                       ("check", "other"), ("check", "other", "x", "y"), (), "check", "other", None, 1, b"check", ("check", "other", ("x",)),
                       (("check",), "other", "x"), ("check", ("other",), "x"), ("check", "other", 1), ("check", "same", b"x")):
            self.assert_invalid({option: 1})
            self.assert_invalid({SAME: 1, option: 1})

    def test_values(self):
        for price in (0, -1, True, False, None, "1", "", 10 ** 30 + 1, (1,), [1], {}):
            self.assert_invalid({SAME: price})
            self.assert_invalid({("check", "other", "check"): 1, SAME: price})
        for price in (1, 2, 10 ** 30):
            for call in self.calls(check_book(), {SAME: price}):
                call()

    def test_any_values(self):
        for value in many_kinds():
            self.assert_invalid(value)
            self.assert_invalid([(SAME, 1)])
            try:
                self.assert_invalid({value: 1})
            except TypeError:
                pass
            if value.__class__ is not int or not 1 <= value <= 10 ** 30:
                self.assert_invalid({SAME: value})

    def test_limits_of_books_come_next(self):
        prices = {("check", "other", name): 1 for name in ("a", "b", "c")}
        for call in self.calls(check_book(), prices, "no hands", Staff(z=1)):
            with self.assertRaises(TooMany) as caught:
                call()
            self.assertEqual(caught.exception.limit, 3)
        book = Book({"p": []}, {"a": Vote(3), "b": Vote(3), "c": Task(other=["a"])}, "a")
        for call in self.calls(book, {("c", "other", "b"): 1}, -1):
            with self.assertRaises(TooMany) as caught:
                call()
            self.assertEqual(caught.exception.limit, 5)

    def test_hands(self):
        for hands in [-1, 21, 10 ** 30, True, False, None, "1", (1,), [], {}] + many_kinds():
            if hands.__class__ is int and 0 <= hands <= 20:
                continue
            for call in self.calls(check_book(), {SAME: 1}, hands, Staff(z=1)) + [lambda: guards(check_book(), (), hands, Staff(z=1))]:
                with self.assertRaises(OutOfRange, msg=repr(hands)) as caught:
                    call()
                self.assertIs(caught.exception.value, hands)
        for hands in (0, 20):
            for call in self.calls(check_book(), {SAME: 1}, hands):
                call()
            guards(check_book(), (), hands)

    def test_staffs(self):
        for staff, kind in ((Staff(q=1), "q"), (Staff(p=1, b=1, z=1), "b")):
            for call in self.calls(check_book(), {SAME: 1}, 1, staff) + [lambda: guards(check_book(), (SAME,), 1, staff)]:
                with self.assertRaises(UnknownKind) as caught:
                    call()
                self.assertEqual(caught.exception.value, kind)

    def test_errors_of_guards(self):
        check = check_book()
        for choice, error, value in (((("zz", "other", "x"),), UnknownTask, "zz"), (tuple(("check", "other", name) for name in "abc"), TooMany, 3)):
            with self.assertRaises(error) as caught:
                guards(check, choice, "no hands", Staff(z=1))
            self.assertEqual(list(vars(caught.exception).values()), [value])

    def test_too_many_stands_ahead_of_all(self):
        book = book_with(2001)
        for call in self.calls(book, None, "no hands", Staff(z=1)) + [lambda: guards(book, (("zz", "other", "x"),), -1), lambda: needless(book)]:
            with self.assertRaises(TooMany) as caught:
                call()
            self.assertEqual(caught.exception.limit, 2000)

    def test_prices_are_not_changed(self):
        prices = {SAME: 2, ("check", "other", "check"): 1}
        for call in self.calls(check_book(), prices):
            call()
        self.assertEqual(list(prices.items()), [(SAME, 2), (("check", "other", "check"), 1)])

    def test_arguments_by_name(self):
        check, prices = check_book(), {SAME: 1}
        self.assertEqual(conditions(book=check), (OTHER,))
        self.assertEqual(with_choice(choice=(), book=check), check)
        self.assertEqual(needless(book=check), ())
        self.assertEqual(cheapest_guard(staff=None, hands=0, prices=prices, book=check), (0, ()))
        self.assertEqual(cheapest_guard(check, prices, 1), (0, ()))
        self.assertTrue(guards(staff=Staff(p=2), hands=1, choice=(), book=check))
        found = bars(cost=5, staff=None, hands=3, prices=prices, book=check)
        self.assertTrue(is_bars(value=found, cost=5, staff=None, hands=3, prices=prices, book=check))

    def test_functions_stand_in_their_file(self):
        for name in "conditions with_choice needless cheapest_guard guards bars is_bars".split():
            self.assertEqual(getattr(module, name).__module__, "fewhands.guards")


class TestIsBars(unittest.TestCase):
    """In this book one person can do all; the options can ask for two persons, or for what nobody can do."""

    def setUp(self):
        self.book = Book({"p": [], "q": []}, {"a": Task(), "b": Task(), "v": Vote(2)}, ("then", "a", ("either", "b", "v")))
        self.two, self.never = ("b", "other", "a"), ("v", "same", "a")
        self.late = ("a", "same", "b")
        self.prices = {self.two: 2, self.never: 3, self.late: 4}
        self.cast = ("p",)
        self.moves = (("do", 0, (1,)), ("choose", 0), ("do", 0, (1,)))
        self.lost = ("lost", (), attack(self.book, Staff(p=1)))
        changed = with_choice(self.book, (self.late,))
        self.stop = ("never", (self.late,), barrier(changed, Staff(p=8, q=8)))

    def assert_bars(self, value, cost, hands=2, staff=None, told=True):
        self.assertIs(is_bars(self.book, self.prices, hands, staff, cost, value), told, value)

    def assert_none(self, value, cost=2, hands=2, staff=None):
        self.assert_bars(value, cost, hands, staff, False)

    def test_each_sort(self):
        band = ("band", self.cast, self.moves)
        self.assert_bars([band], 2)
        self.assert_bars([band], 1)
        self.assert_bars([], 0)
        self.assert_bars([], -5)
        self.assert_bars([band, band, self.stop], 2)
        self.assert_none([], 1)
        self.assert_none([self.stop], 1)
        # The choice of two guards against one person, so it cannot be barred.
        self.assert_none([band, self.stop], 3)
        self.assertEqual(cheapest_guard(self.book, self.prices, 2), (2, (self.two,)))
        self.assert_bars([self.lost], 1000, 2, Staff(p=1))
        self.assert_bars([self.lost], 1000, 0, Staff(p=1))
        self.assert_bars([self.lost, self.stop], 1000, 0, Staff(p=1))
        self.assert_none([self.lost], 1000, 0, Staff(p=2))
        self.assert_none([self.lost], 1000, 0, None)
        self.assert_none([self.stop], 5, 0, Staff(p=1))

    def test_bands(self):
        for cast, moves in (
            (("p", "q"), self.moves), (("p", "p"), self.moves), ((), ()), (("p",), self.moves[:2]), (("p",), ()), (("p",), self.moves + self.moves[:1]),
            (("r",), self.moves), (("p",), (("do", 0, (2,)),) + self.moves[1:]), (("p",), (("do", 0, (0,)),) + self.moves[1:]),
            (("p",), (("do", 0, ()),) + self.moves[1:]), (("p",), (("do", 0, (1, 1)),) + self.moves[1:]), (("p",), (("do", 0, (True,)),) + self.moves[1:]),
            (("p",), (("do", 0, ("p",)),) + self.moves[1:]), (("p",), (("do", 0, (("p", ()),)),) + self.moves[1:]),
            (("p",), (("do", 0, [1]),) + self.moves[1:]), (("p",), (["do", 0, (1,)],) + self.moves[1:]), (["p"], self.moves), (("p",), list(self.moves)),
            (("p",), (("do", 1, (1,)),) + self.moves[1:]), (("p",), (("do", False, (1,)),) + self.moves[1:]),
            (("p",), self.moves[:1] + (("choose", 2),) + self.moves[2:]), (("p",), self.moves[:1] + (("choose", False),) + self.moves[2:]),
            (("p",), self.moves[:1] + (("choose", 1),) + self.moves[2:]), (None, self.moves), (("p",), None), ((None,), self.moves), ((("p",),), self.moves),
            (([],), self.moves), ("p", self.moves), (("p",), (None,)), (("p",), ((),)),
        ):
            self.assert_none([("band", cast, moves)])
            self.assert_none([("band", self.cast, self.moves), ("band", cast, moves)])
        self.assert_bars([("band", ("q",), self.moves)], 2)
        self.assert_bars([("band", ("p", "q"), self.moves)], 2, 3)
        self.assert_none([("band", ("p",), self.moves)], 2, 1)

    def test_choices_of_the_world(self):
        book = Book({"p": []}, {"a": Task(), "b": Task(other=["b"])}, ("then", ("either", "a", DONE), ("either", DONE, "a")))
        for moves, told in (((("choose", 1), ("choose", 0)), True), ((("choose", 0), ("do", 0, (1,)), ("choose", 0)), True), ((("pick", 0, 1), ("choose", 0)), False),
                            ((("choose", 1), ("pick", 0, 0)), False), ((("choose", 1), ("pick", None, 0)), False), ((("choose", 1, 0), ("choose", 0)), False),
                            ((("choose",), ("choose", 0)), False), ((("choose", 0), ("choose", 0)), False)):
            self.assertIs(is_bars(book, {("a", "other", "b"): 1}, 2, None, 1, [("band", ("p",), moves)]), told, moves)

    def test_nobody_at_all(self):
        """What is completed without any deed bars by an empty cast, as soon as one hand is asked for."""
        prices = {("a", "other", "a"): 1}
        for plan, moves in ((DONE, ()), (("again", "a"), (("choose", 0),)), (("any", "a", DONE), (("pick", 0, 1),))):
            book = Book({"p": []}, tasks_of("a"), plan)
            self.assertEqual(bars(book, prices, 1, None, 5), [("band", (), moves)])
            self.assertTrue(is_bars(book, prices, 1, None, 5, [("band", (), moves)]))
            self.assertFalse(is_bars(book, prices, 0, None, 0, [("band", (), moves)]))
            self.assertEqual(cheapest_guard(book, prices, 0), (0, ()))
            self.assertIsNone(cheapest_guard(book, prices, 1))

    def test_groups(self):
        prices, moves = {self.never: 1}, (("do", 0, (2,)), ("choose", 1), ("do", 0, (1, 3)))
        for group, told in (((1, 3), True), ((2, 3), True), ((3, 1), False), ((1, 1), False), ((1, 4), False), ((1, 2, 3), False), ((1,), False), ((0, 1), False)):
            value = [("band", ("p", "q", "p"), moves[:2] + (("do", 0, group),))]
            self.assertIs(is_bars(self.book, prices, 4, None, 1, value), told, group)

    def test_persons_who_cannot(self):
        book = Book({"p": ["r"], "q": []}, {"a": Task("r"), "b": Task(other=["a"]), "c": Task(same=["a"])}, ("then", "a", "b", "c"))
        prices = {("c", "other", "b"): 1}
        for groups, told in (((1, 2, 1), True), ((2, 1, 2), False), ((1, 1, 1), False), ((1, 2, 2), False), ((3, 2, 3), True), ((3, 1, 3), True)):
            moves = tuple(("do", 0, (person,)) for person in groups)
            self.assertIs(is_bars(book, prices, 4, None, 1, [("band", ("p", "q", "p"), moves)]), told, groups)

    def test_picks(self):
        book = Book({"p": []}, {"a": Task(), "b": Task(other=["b"])}, ("beside", ("any", "a", DONE), ("any", DONE, "a")))
        for moves, told in (((("pick", 0, 1), ("pick", 0, 0)), True), ((("pick", 1, 0), ("pick", 0, 1)), True), ((("pick", 1, 1), ("pick", 0, 1)), False),
                            ((("pick", 0, True), ("pick", 0, 0)), False), ((("pick", False, 1), ("pick", 0, 0)), False), ((("pick", 2, 0),), False),
                            ((("pick", 0, 2),), False), ((("pick", 0),), False), ((("choose", 0),), False),
                            ((("choose", 1), ("choose", 0)), False), ((("pick", 0, 1), ("choose", 0)), False), ((("pick", 0, 1, 0), ("pick", 0, 0)), False),
                            ((("pick", 0, 0), ("choose", "a"), ("pick", 0, 0)), False), ((("pick", 0, 0), ("pick", 0, "a"), ("pick", 0, 0)), False),
                            ((("pick", 0, 0), ("do", 0, "a"), ("pick", 0, 0)), False), ((("pick", 0, 0), ("do", 0), ("pick", 0, 0)), False),
                            ((("pick", 0, 0), ("do", 0, (1,), ()), ("pick", 0, 0)), False), ((("pick", 0, 0), ("do", 0, 1), ("pick", 0, 0)), False),
                            ((("pick", 0, 0), ("do", 0, ""), ("pick", 0, 0)), False), ((("pick", 0, 1), None, ("pick", 0, 0)), False),
                            ((("pick", 0, 1), ("pick", 0, 0), None), False), ((("pick", 0, 1), ("pick", 0, 0), ["pick", 0, 0]), False),
                            ((("pick", 0, 0), ("do", 0, (1,)), ("pick", 0, 0)), True), ((("pick", 1, 1), ("do", 1, (1,)), ("pick", 0, 1)), True)):
            self.assertIs(is_bars(book, {("a", "other", "b"): 1}, 2, None, 1, [("band", ("p",), moves)]), told, moves)

    def test_barriers_and_attacks(self):
        word, choice, stop = self.stop
        prices = {self.late: 1}
        self.assertTrue(is_bars(self.book, prices, 0, Staff(p=1), 2, [self.lost, self.stop]))
        for value in (("never", (), stop), ("never", choice, stop[1:]), ("never", choice, list(stop)), ("never", choice, ()), ("never", choice, None),
                      ("never", [self.late], stop), ("never", self.late, stop), ("never", (list(self.late),), stop), ("never", choice * 2, stop),
                      ("never", choice + (self.two,), stop), ("never", (("a", "same", "a"),), stop), ("never", None, stop), ("Never", choice, stop),
                      ("never", choice), ("never", choice, stop, ()), ["never", choice, stop], ("lost", choice, stop), (None, choice, stop), ("band", choice, stop)):
            self.assertFalse(is_bars(self.book, prices, 0, Staff(p=1), 2, [self.lost, value]), value)
        for value in (("lost", (), {}), ("lost", choice, self.lost[2]), ("lost", (), None), ("lost", [], self.lost[2]), ("lost", None, self.lost[2]),
                      ("lost", (), [self.lost[2]]), ("never", (), self.lost[2]), ["lost", (), self.lost[2]], ("Lost", (), self.lost[2]),
                      ("", (), self.lost[2]), (None, (), self.lost[2]), (("lost",), (), self.lost[2])):
            self.assertFalse(is_bars(self.book, prices, 0, Staff(p=1), 2, [self.lost, value]), value)
        # An attack that is none with the choice, and one that is none without it.
        with_two = attack(with_choice(self.book, (self.two,)), Staff(p=1))
        self.assertIs(is_bars(self.book, self.prices, 0, Staff(p=1), 0, [("lost", (self.two,), with_two)]), True)
        self.assertIs(is_bars(self.book, self.prices, 0, Staff(p=1), 0, [("lost", (), with_two)]), False)
        self.assertIs(is_bars(self.book, self.prices, 0, Staff(p=1), 0, [("lost", (self.two,), self.lost[2])]), False)

    def test_choices(self):
        """Choices are ascending tuples of options with prices."""
        both = tuple(sorted([self.two, self.late]))
        changed = with_choice(self.book, both)
        stop = barrier(changed, Staff(p=8, q=8))
        self.assertTrue(is_bars(self.book, self.prices, 0, None, 0, [("never", both, stop)]))
        for choice in (both[::-1], both + both[1:], both[:1] + both, list(both), both + (None,), both + ("",), both + ((),), both + (1,)):
            self.assertFalse(is_bars(self.book, self.prices, 0, None, 0, [("never", choice, stop)]), choice)

    def test_any_values(self):
        for value in many_kinds():
            if value != []:
                self.assert_none(value, 0)
            self.assert_none([value], 0)
            self.assert_none((value,), 0)
            self.assert_none([("band", self.cast, self.moves), value], 0)
            for word in ("band", "never", "lost"):
                self.assert_none([(word, value, value)], 0, 2, Staff(p=1))
                self.assert_none([(word, (), value)], 0, 1, Staff(p=1))
            self.assert_none([(value, self.cast, self.moves)], 0)
            self.assert_none([("band", (value,), self.moves)] if value != "p" else [None], 0)
            self.assert_none([("band", self.cast, (value,))], 0)
            self.assert_none([("band", self.cast, (("do", 0, (value,)),) + self.moves[1:])] if value != 1 or value is True else [None], 0)
            self.assert_none([("never", (value,), ())], 0)
        self.assert_none((), 0)
        self.assert_none((("band", self.cast, self.moves),), 2)
        self.assert_none({}, 0)

    def test_drawn_changes(self):
        made = random.Random(132)
        seen = []
        for _ in range(150):
            book = small_book(made)
            prices = drawn_prices(made, book)
            hands, staff = made.choice([1, 2, 3]), made.choice([None, Staff.of({kind: made.randint(0, 3) for kind in book.kinds})])
            found = bars(book, prices, hands, staff, 100) or bars(book, prices, hands, staff, made.randint(0, 3)) or []
            for _ in range(4):
                value = [bar for bar in found if made.random() < 0.8]
                for at, (word, first, second) in enumerate(value):
                    if made.random() < 0.3:
                        if word == "band":
                            first = first + made.choice([(), (made.choice(sorted(book.kinds)),)])
                            second = made.choice([second, second[:-1], second + second[-1:]])
                        else:
                            first = tuple(option for option in sorted(prices) if (option in first) != (made.random() < 0.3))
                        value[at] = (word, first, second)
                cost = made.choice([0, 1, 2, 3, 5, 100])
                told = is_bars(book, prices, hands, staff, cost, value)
                seen.append(told)
                self.assertIs(told, are_right_bars(book, prices, hands, staff, cost, value), (book.text(), prices, hands, staff, cost, value))
        self.assertGreater(min(seen.count(True), seen.count(False)), 100)

    def test_large_books(self):
        """Answered in seconds, with five options."""
        book = book_with(1990)
        prices = {(task, "same", name): price for price, (task, name) in enumerate([("x", "x"), ("y", "y"), ("z", "z"), ("y", "x"), ("z", "y")], 1)}
        for staff, hands in ((Staff(a=4), 6), (Staff(a=1), 2)):
            found = cheapest_guard(book, prices, hands, staff)
            cost = 100 if found is None else found[0]
            self.assertTrue(is_bars(book, prices, hands, staff, cost, bars(book, prices, hands, staff, cost)))
        self.assertEqual(set(needless(book)) - set(conditions(book)), set())


if __name__ == "__main__":
    unittest.main()
