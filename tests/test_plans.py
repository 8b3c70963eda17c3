import random
import unittest

import reference
from fewhands.errors import InvalidPlan
from fewhands.plans import choices, is_plan, names_in, normal, places, turn
from values import many_kinds, nested_tuples

WORDS = ("then", "either", "any", "again", "beside")
DONE = ("then",)


def small_plans(depth):
    """All plans of few levels over few names, and some that are no plans."""
    if depth == 0:
        return ["a", "any"]
    parts = small_plans(depth - 1)
    found = list(parts) + [DONE]
    for word in WORDS:
        found += [(word, part) for part in parts]
        found += [(word, one, other) for one in parts for other in parts]
    return found


def some_plans():
    """Right plans of many forms."""
    made = random.Random(20)
    plans = [reference.random_plan(made, ["a", "b", "then", "any", "beside"], 5) for _ in range(3000)]
    return plans + [plan for plan in small_plans(2) if not reference.wrong_parts(plan)]


class PlanCase(unittest.TestCase):
    def assert_wrong(self, value, plan):
        """The value is the first wrong part of the plan, the very one."""
        for function in (normal, turn, choices, places):
            with self.assertRaises(InvalidPlan, msg=repr(plan)) as caught:
                function(plan)
            self.assertIs(caught.exception.value, value, repr(plan))
        self.assertIs(is_plan(plan), False, repr(plan))


class TestNormal(PlanCase):
    def test_written_out(self):
        for plan, form in (
            ("a", "a"), ("then", "then"), ("beside", "beside"),
            (DONE, DONE), (("then", "a"), "a"), (("then", "a", "b"), ("then", "a", "b")),
            (("then", DONE), DONE), (("then", DONE, DONE), DONE),
            (("then", ("then", "a")), "a"),
            (("then", ("then", ("then", "a", "b"), "c"), "d"), ("then", "a", "b", "c", "d")),
            (("then", "a", ("then", "b", ("then", "c", ("then",)))), ("then", "a", "b", "c")),
            (("then", DONE, "a"), "a"), (("then", "a", DONE), "a"), (("then", DONE, "a", DONE, "b"), ("then", "a", "b")),
            (("beside", DONE, "a"), "a"), (("beside", "a", DONE), "a"), (("beside", DONE, DONE), DONE),
            (("beside", ("then", DONE), "a"), "a"), (("beside", "a", ("then", DONE, ("then", DONE))), "a"),
            (("beside", ("then", "a"), ("then", "b")), ("beside", "a", "b")),
            (("beside", DONE, ("then", "a", "b")), ("then", "a", "b")),
            (("then", ("beside", DONE, ("then", "a", "b")), "c"), ("then", "a", "b", "c")),
            (("then", ("beside", ("then", "a", "b"), DONE)), ("then", "a", "b")),
            (("either", DONE, ("then", "a")), ("either", DONE, "a")),
            (("either", "a"), ("either", "a")), (("any", "a"), ("any", "a")), (("any", ("any", "a")), ("any", ("any", "a"))),
            (("again", DONE), ("again", DONE)), (("again", ("then", ("then", "a"), "b")), ("again", ("then", "a", "b"))),
            (("then", "a", "a", "a"), ("then", "a", "a", "a")), (("beside", "a", "a"), ("beside", "a", "a")),
            (("then", "then"), "then"), (("then", "then", "any", DONE), ("then", "then", "any")),
            (("beside", "beside", "then"), ("beside", "beside", "then")),
        ):
            self.assertEqual(normal(plan), form)
            self.assertEqual(normal(plan=plan), form)
            self.assertIs(is_plan(plan), True)

    def test_as_by_rewriting(self):
        for plan in some_plans():
            form = normal(plan)
            self.assertEqual(form, reference.normal_form(plan))
            self.assertEqual(normal(form), form)
            self.assertIs(is_plan(plan), True)
            self.assertIs(is_plan(value=form), True)


class TestWrongPlans(PlanCase):
    def test_values_of_many_kinds(self):
        for value in many_kinds():
            if value not in ("p", "self"):
                self.assert_wrong(value, value)
                for word in WORDS:
                    plan = (word, value, "a") if word == "beside" else (word, value)
                    self.assert_wrong(value, plan)
                self.assert_wrong(value, ("then", "a", ("either", "b", ("any", value, 7)), 8))

    def test_names(self):
        for name in ("", "abcdefghi", "A", "aB", "a1", "a b", " ", "\u00e4", "a(", "then()"):
            self.assert_wrong(name, name)
            self.assert_wrong(name, ("again", name))

    def test_words_that_are_no_words_of_plans(self):
        for first in ("a", "Then", "thenn", "", "or", b"then", 0, True, None, ("then",), ["then"], {}):
            for plan in ((first,), (first, "a"), (first, "a", "b")):
                self.assert_wrong(plan, plan)
                self.assert_wrong(plan, ("either", "a", plan, 5))

    def test_numbers_of_parts(self):
        for plan in (("either",), ("any",), ("again",), ("again", "a", "b"), ("again", "a", "b", "c"), ("beside",),
                     ("beside", "a"), ("beside", "a", "b", "c"), ()):
            self.assert_wrong(plan, plan)
            self.assert_wrong(plan, ("then", "a", plan))
        for word in ("then", "either", "any"):
            for many in range(1, 30):
                self.assertIs(is_plan((word,) + ("a",) * many), True)
        self.assertIs(is_plan(DONE), True)

    def test_wrong_numbers_are_told_ahead_of_wrong_parts(self):
        for plan in (("again", 1, 2), ("beside", 1), ("beside", 1, 2, 3), ("other", 1), (1, 2)):
            self.assert_wrong(plan, plan)

    def test_lists(self):
        for value in (["then"], ["then", "a"], ["a"], []):
            self.assert_wrong(value, value)
            for plan in (("then", value), ("either", "a", value), ("any", ("again", value)), ("beside", "a", value)):
                self.assert_wrong(value, plan)
        inner = ["then", ("beside",)]
        self.assert_wrong(inner, ("then", inner, ("beside",)))

    def test_beside_within_beside(self):
        inner = ("beside", "b", "c")
        for plan in (
            ("beside", "a", inner), ("beside", inner, "a"), ("beside", ("then", "a", inner), "b"),
            ("beside", ("either", "a", inner), "b"), ("beside", "b", ("again", inner)),
            ("beside", ("any", ("again", ("either", ("then", inner)))), "b"), ("then", "a", ("beside", DONE, inner)),
            ("beside", DONE, ("then", inner)),
        ):
            self.assert_wrong(inner, plan)
        for plan in (("then", inner, inner), ("either", inner, ("then", inner)), ("again", ("any", inner))):
            self.assertIs(is_plan(plan), True)
        wrong = ("beside", "b", 1)
        self.assert_wrong(wrong, ("beside", "a", wrong))
        first, second = ("beside", "b", "c"), ("beside", "d", "e")
        self.assert_wrong(first, ("beside", ("then", first), second))
        self.assert_wrong(second, ("beside", ("then", "a"), ("any", second, first)))

    def test_order(self):
        for value, plan in (
            (1, ("then", 1, 2)), (1, ("then", ("then", 1), 2)), (1, ("then", "a", ("then", "b", ("either", "c", 1)), 2)),
            (1, ("beside", ("any", "a", 1), 2)), (1, ("either", ("either", ("either", ("either", 1)), 2), 3)),
        ):
            self.assert_wrong(value, plan)
        wrong = ("again",)
        self.assert_wrong(wrong, ("then", ("any", "a", wrong), 1))
        self.assert_wrong(wrong, ("then", wrong, ("again",), 1))

    def test_against_a_second_reading(self):
        """Parts are taken out, put in and exchanged at random."""
        made = random.Random(21)
        values = ["a", "then", "", "A", 1, True, None, (), DONE, ["a"], ("again",), ("beside", "a", "b"), b"a", ("a",)]
        wrong = 0
        for plan in some_plans():
            for _ in range(made.randint(1, 3)):
                plan = changed(made, plan, values)
            found = reference.wrong_parts(plan)
            if found:
                wrong += 1
                self.assert_wrong(found[0], plan)
            else:
                self.assertEqual(normal(plan), reference.normal_form(plan))
        self.assertGreater(wrong, 1000)

    def test_deep_values(self):
        self.assert_wrong((), ("then", ()))
        deep = nested_tuples(20)
        self.assert_wrong(deep, deep)
        plan = "a"
        for _ in range(20):
            plan = ("any", plan)
        self.assertEqual(normal(plan), plan)


def changed(made, plan, values):
    """The plan with one part at random replaced, taken out or put in."""
    if not isinstance(plan, tuple) or not plan or made.random() < 0.2:
        return made.choice(values)
    at = made.randint(1, len(plan))
    way = made.randint(0, 3)
    if at == len(plan) or way == 0:
        return plan[:at] + (made.choice(values),) + plan[at:]
    if way == 1:
        return plan[:at] + plan[at + 1:]
    return plan[:at] + (changed(made, plan[at], values),) + plan[at + 1:]


class TestNames(unittest.TestCase):
    def test_names_in(self):
        for plan, names in (
            ("a", ("a",)), (DONE, ()), (("then", "b", "a", "b"), ("a", "b")), (("again", ("any", "c", DONE)), ("c",)),
            (("beside", "then", ("either", "beside", "a")), ("a", "beside", "then")), (("again", "again"), ("again",)),
        ):
            self.assertEqual(names_in(plan), names)
            self.assertEqual(names_in(plan=plan), names)


class TestTurns(unittest.TestCase):
    def test_turn(self):
        world, staff = ("either", "a"), ("any", "a")
        for plan, whose in (
            (DONE, "done"), (("then", DONE, ("beside", DONE, DONE)), "done"), ("a", "staff"), ("either", "staff"),
            ("again", "staff"), (world, "world"), (("again", "a"), "world"), (staff, "staff"),
            (("any", world), "staff"), (("then", world, "a"), "world"), (("then", "a", world), "staff"),
            (("then", DONE, world), "world"), (("then", ("then",), ("then", ("again", "a"), "b")), "world"),
            (("beside", world, "a"), "world"), (("beside", "a", world), "world"), (("beside", "a", "b"), "staff"),
            (("beside", staff, ("then", "b", world)), "staff"), (("beside", ("then", "a", world), world), "world"),
            (("then", ("beside", "a", ("then", world, "b")), "c"), "world"), (("beside", DONE, world), "world"),
            (("then", "a", ("beside", world, world)), "staff"),
        ):
            self.assertEqual(turn(plan), whose, plan)
            self.assertEqual(turn(plan=plan), whose, plan)

    def test_choices(self):
        loop = ("again", "a")
        for plan, found in (
            ("a", []), (DONE, []), (("any", "a", "b"), []), (("then", "a", loop), []), (("any", loop), []),
            (("either", "a", "b", "a"), ["a", "b", "a"]), (("either", DONE), [DONE]),
            (loop, [DONE, ("then", "a", loop)]), (("again", DONE), [DONE, ("again", DONE)]),
            (("again", ("then", "a", "b")), [DONE, ("then", "a", "b", ("again", ("then", "a", "b")))]),
            (("again", loop), [DONE, ("then", loop, ("again", loop))]),
            (("then", ("either", DONE, "b"), "c"), ["c", ("then", "b", "c")]),
            (("then", ("either", ("then", "a", "b"), "c")), [("then", "a", "b"), "c"]),
            (("beside", ("either", DONE, "a"), "b"), ["b", ("beside", "a", "b")]),
            (("beside", "b", ("either", DONE, "a")), ["b", ("beside", "b", "a")]),
            (("beside", ("either", "a", "b"), ("either", "c", "d")),
             [("beside", "a", ("either", "c", "d")), ("beside", "b", ("either", "c", "d"))]),
            (("beside", ("then", "a", loop), ("then", loop, "b")),
             [("beside", ("then", "a", loop), "b"), ("beside", ("then", "a", loop), ("then", "a", loop, "b"))]),
            (("then", ("beside", "a", loop), "b"), [("then", "a", "b"), ("then", ("beside", "a", ("then", "a", loop)), "b")]),
            (("either", ("then", "a"), ("beside", DONE, "b")), ["a", "b"]),
        ):
            self.assertEqual(choices(plan), found, plan)
            self.assertEqual(choices(plan=plan), found, plan)
            self.assertIs(choices(plan).__class__, list)

    def test_places(self):
        pick = ("any", "a", ("either", "b"))
        for plan, found in (
            (DONE, []), ("a", ["a"]), ("any", ["any"]), (pick, [pick]), (("either", "a"), []), (("again", "a"), []),
            (("then", "a", "b"), ["a"]), (("then", pick, "b"), [pick]), (("then", ("either", "a"), "b"), []),
            (("beside", "a", "b"), ["a", "b"]), (("beside", "a", "a"), ["a", "a"]), (("beside", pick, ("then", "b", "c")), [pick, "b"]),
            (("beside", "a", ("either", "b")), []), (("beside", ("again", "b"), "a"), []),
            (("then", ("beside", ("then", "a", "b"), ("then", "c", "d")), "e"), ["a", "c"]),
            (("then", DONE, ("then", ("then", "a"), "b")), ["a"]), (("beside", DONE, ("then", "a", "b")), ["a"]),
            (("any", ("then", "a")), [("any", "a")]), (("then", ("any", ("then", DONE), "b")), [("any", DONE, "b")]),
        ):
            self.assertEqual(places(plan), found, plan)
            self.assertEqual(places(plan=plan), found, plan)
            self.assertIs(places(plan).__class__, list)

    def test_as_in_a_second_reading(self):
        for plan in some_plans():
            form = reference.normal_form(plan)
            rows = reference.plan_moves(form)
            self.assertEqual(turn(plan), reference.turn_of(form))
            self.assertEqual(choices(plan), [left for word, _, _, left in rows if word == "choose"])
            here = [reference.at_path(form, path) for path in reference.place_paths(form)] if turn(plan) == "staff" else []
            self.assertEqual(places(plan), here)

    def test_returned_lists_are_new(self):
        plan = ("either", "a", "b")
        choices(plan).clear()
        self.assertEqual(choices(plan), ["a", "b"])
        places("a").clear()
        self.assertEqual(places("a"), ["a"])


class TestExample(unittest.TestCase):
    def test_the_example_of_the_document(self):
        from fewhands.plans import plan_text
        shown = [normal(("then", ("then", "a"), ("beside", ("then",), "b"))), choices(("again", "a")),
                 plan_text(("any", "a", ("then",)))]
        self.assertEqual(repr(shown), "[('then', 'a', 'b'), [('then',), ('then', 'a', ('again', 'a'))], 'any(a, then())']")
