import random
import unittest

import reference
from fewhands.errors import InvalidText
from fewhands.plans import plan_text, read_plan
from values import many_kinds

DONE = ("then",)


def some_plans(many):
    made = random.Random(30)
    return [reference.random_plan(made, ["a", "bc", "then", "any", "beside", "abcdefgh"], 4) for _ in range(many)]


def damaged(text):
    """The text with each sign left out, doubled, exchanged, or another one put in; cut; and with more behind it."""
    found = [text[:at] for at in range(len(text))]
    found += [text[:at] + text[at + 1:] for at in range(len(text))]
    found += [text[:at] + text[at] + text[at:] for at in range(len(text))]
    found += [text[:at] + text[at + 1] + text[at] + text[at + 2:] for at in range(len(text) - 1)]
    for sign in "(), aZ9\n\u00e4":
        found += [text[:at] + sign + text[at:] for at in range(len(text) + 1)]
        found += [text[:at] + sign + text[at + 1:] for at in range(len(text))]
    return found + [text + "()", text + ", a", text + text, text + "then(a)"]


class TextCase(unittest.TestCase):
    def assert_invalid(self, index, text):
        with self.assertRaises(InvalidText, msg=repr(text)) as caught:
            read_plan(text)
        self.assertEqual(caught.exception.index, index, repr(text))


class TestPlanText(TextCase):
    def test_written_out(self):
        for plan, text in (
            ("a", "a"), ("then", "then"), ("beside", "beside"), (DONE, "then()"), (("then", "a"), "then(a)"),
            (("then", "a", "b"), "then(a, b)"), (("either", DONE, "b"), "either(then(), b)"),
            (("any", ("any", "any")), "any(any(any))"), (("again", "again"), "again(again)"),
            (("beside", "beside", "then"), "beside(beside, then)"),
            (("then", ("beside", ("again", "a"), DONE), ("then", "b", "c", "d")),
             "then(beside(again(a), then()), then(b, c, d))"),
        ):
            self.assertEqual(plan_text(plan), text)
            self.assertEqual(plan_text(plan=plan), text)
            self.assertEqual(read_plan(text), plan)
            self.assertEqual(read_plan(text=text), plan)

    def test_inverse(self):
        for plan in some_plans(2000):
            text = plan_text(plan)
            self.assertEqual(read_plan(text), plan)
            self.assertIsNone(reference.text_index(text))

    def test_hundred_open_parentheses(self):
        plan = "a"
        for _ in range(100):
            plan = ("any", plan, "b")
        self.assertEqual(read_plan(plan_text(plan)), plan)
        self.assert_invalid(400, "any(" * 100)


class TestWrongTexts(TextCase):
    def test_values_that_are_no_strings(self):
        for value in many_kinds() + [("then",), ["a"], b"a"]:
            if not isinstance(value, str):
                self.assert_invalid(0, value)

    def test_written_out(self):
        for index, text in (
            (0, ""), (0, " "), (0, "("), (0, ")"), (0, "A"), (0, "1"), (0, "\u00e4"), (1, "a b"), (1, "a "), (1, "a\n"),
            (0, " a"), (8, "abcdefghi"), (8, "abcdefgh("), (7, "then(ab(c))"),
            (1, "a()"), (1, "a,"), (1, "a, b"), (3, "any1"), (4, "anyo()"), (4, "then)"),
            (7, "either()"), (4, "any()"), (6, "again()"), (7, "again(a, b)"), (8, "beside(a)"), (7, "beside()"),
            (11, "beside(a, b, c)"), (16, "beside(a, beside(b, c))"), (13, "beside(beside(a, b), c)"),
            (18, "beside(then(beside(a, b)), c)"), (5, "then( a)"), (6, "then(a b)"), (7, "then(a,b)"), (8, "then(a,  b)"),
            (6, "then(a )"), (8, "then(a, )"), (6, "then(a , b)"), (4, "then ()"), (6, "then())"), (6, "then() "),
            (6, "then()a"), (6, "then()("), (7, "then(a)\n"), (5, "then(("), (5, "then(,"), (12, "either(then,"),
            (13, "either(then, "), (5, "then("), (6, "then(a"), (7, "then(a,"), (8, "then(a, "), (13, "then(abcdefghi)"),
            (8, "thenthen(a)"), (8, "thenthenthen"), (12, "then(a, any("), (6, "then(a("), (4, "ther()"),
        ):
            self.assert_invalid(index, text)

    def test_damaged_at_each_place(self):
        texts = ["a", "then()", "then(a)", "either(a, then())", "beside(a, any(b))", "again(beside(then, abcdefgh))",
                 "beside(either(a), again(b))", "then(beside(a, b), beside(c, d))"]
        wrong = 0
        for text in texts + [plan_text(plan) for plan in some_plans(25) if len(plan_text(plan)) < 60]:
            for other in damaged(text):
                index = reference.text_index(other)
                if index is None:
                    self.assertEqual(plan_text(read_plan(other)), other)
                else:
                    wrong += 1
                    self.assert_invalid(index, other)
        self.assertGreater(wrong, 2000)

    def test_the_prefix_can_be_read_on_and_a_longer_one_cannot(self):
        """The number that is told, by what can be put behind the prefix of this length."""
        for text in damaged("then(either(a, b), beside(c, again(d)))"):
            index = reference.text_index(text)
            if index is not None:
                self.assertIsNotNone(completed(text[:index]), text)
                if index < len(text):
                    self.assertIsNone(completed(text[:index + 1]), text)


def completed(start):
    """Some text of a plan that starts like this and can be read, or None."""
    for middle in ("", "a", " a", ", a", "(a", "(a, a"):
        for closed in range(5):
            for more in ("", ", a)"):
                text = start + middle + more + ")" * closed
                try:
                    read_plan(text)
                    return text
                except InvalidText:
                    pass
    return None
