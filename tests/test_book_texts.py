import random
import unittest

import reference
from fewhands.books import Book
from fewhands.errors import InvalidText
from fewhands.plans import read_plan
from fewhands.tasks import HandOn, Reopen, Task, Vote
from samples import DONE, check_book, full_book, kinds_of, state, tasks_of
from values import many_kinds

FULL = """kind b boss
kind p boss x y z
kind q
task a many: 2
task b other: a
task c same: b takes: d
task d role: boss many: 2
task e other: d forgets: a d
task f
task g takes: b
task h many: 3
plan then(either(any(then(again(a), b), c), d), e, f, g, h, a, b, c, d, e, f, g, h)"""


def text_of(*lines):
    return "\n".join(lines)


class TextCase(unittest.TestCase):
    def assert_invalid(self, index, text):
        with self.assertRaises(InvalidText, msg=repr(text)) as caught:
            Book.read(text)
        self.assertEqual(caught.exception.index, index, repr(text))

    def assert_read(self, text):
        book = Book.read(text)
        self.assertIs(book.__class__, Book)
        self.assertEqual(book.text(), text)
        return book


class TestTextOfBooks(TextCase):
    def test_written_out(self):
        self.assertEqual(check_book().text(), text_of(
            "kind p", "task check other: enter", "task enter", "plan then(enter, either(check, then()))"))
        self.assertEqual(full_book().text(), FULL)
        self.assertEqual(Book({"p": ()}, {}, DONE).text(), "kind p\nplan then()")

    def test_each_field(self):
        for task, line in (
            (Task(), "task a"), (Task("boss"), "task a role: boss"), (Vote(2), "task a many: 2"), (Task(many=3), "task a many: 3"),
            (Task(other=["y", "x"]), "task a other: x y"), (Task(same=["x"]), "task a same: x"),
            (HandOn("z", "w"), "task a takes: w z"), (Reopen("z", "w"), "task a forgets: w z"),
            (Task("boss", many=2, other=["x"], same=["x"], takes=["t"], forgets=["y", "t"]),
             "task a role: boss many: 2 other: x same: x takes: t forgets: t y"),
            (Task("role", other=["many"], forgets=["task"]), "task a role: role other: many forgets: task"),
        ):
            book = Book({"p": []}, {"a": task}, "a")
            self.assertEqual(book.text(), text_of("kind p", line, "plan a"))
            self.assertEqual(Book.read(book.text()), book)

    def test_inverse(self):
        made = random.Random(50)
        for book in [check_book(), full_book()] + [reference.random_book(made) for _ in range(500)]:
            text = book.text()
            again = Book.read(text)
            self.assertEqual(again, book)
            self.assertEqual(state(again), state(book))
            self.assertEqual(Book.read(text=text), book)

    def test_the_plan_is_in_normal_form(self):
        book = Book({"p": []}, tasks_of("a", "b"), ("then", ("then", "a"), ("beside", DONE, "b")))
        self.assertEqual(book.text().split("\n")[-1], "plan then(a, b)")


class TestWrongTexts(TextCase):
    def test_values_that_are_no_strings(self):
        for value in many_kinds() + [FULL.encode(), [FULL], (FULL,), check_book()]:
            if not isinstance(value, str):
                self.assert_invalid(0, value)

    def test_first_lines(self):
        for line in ("", " ", "\n", "kind", "kind ", "kind P", "kind  p", " kind p", "kind p ", "kind p  a", "kinds p", "Kind p",
                     "kind abcdefghi", "kind p1", "kind p a a", "kind p b a", "kind p a b c d e", "kind p A", "kind p ab1",
                     "kind p\r", "kind\tp", "kind p\t", "kind \u00e4", "task a", "plan then()", "p", "kind: p", "kind p:"):
            self.assert_invalid(0, line)
            self.assert_invalid(0, line + "\nplan then()")
            self.assert_invalid(0, line + "\nkind p\nplan then()")

    def test_second_kinds(self):
        for line in ("kind p", "kind p a", "kind a", "kind o a", "kind", "kind q b a", "kind q ", "kind q q q", ""):
            self.assert_invalid(1, text_of("kind p", line))
            self.assert_invalid(1, text_of("kind p", line, "plan then()"))
        self.assert_read(text_of("kind p", "kind pa", "plan then()"))

    def test_number_of_kinds(self):
        self.assert_read(text_of("kind a", "kind b", "kind c", "plan then()"))
        self.assert_invalid(3, text_of("kind a", "kind b", "kind c", "kind d", "plan then()"))
        self.assert_invalid(3, text_of("kind a", "kind b", "kind c", "kind d", "kind e"))
        self.assert_read(text_of("kind a a b c d", "plan then()"))

    def test_task_lines(self):
        for line in (
            "task", "task ", "task A", "task  a", "task a ", " task a", "tasks a", "task a b", "task a role:", "task a role: ",
            "task a role: A", "task a role: a b", "task a role:a", "task a role: none", "task a role a", "task a many:",
            "task a many: 0", "task a many: 1", "task a many: 4", "task a many: 02", "task a many: 2 2", "task a many: 2 3",
            "task a many: two", "task a many: +2", "task a many: \u0662", "task a other:", "task a other: ", "task a other: b a",
            "task a other: a a", "task a other: A", "task a other: a  b", "task a other: a,b", "task a same:", "task a takes:",
            "task a forgets:", "task a takes: b takes: c", "task a takes: b takes: b", "task a takes: c other: b",
            "task a many: 2 role: b", "task a forgets: b takes: c", "task a same: b other: c", "task a other: b same:",
            "task a others: b", "task a role: b role: c", "task role: a", "task a: role: b", "task a\trole: b", "Task a",
            "task abcdefghi", "task a role: abcdefghi", "task a other: abcdefghi",
        ):
            if line != "task a role: none":
                self.assert_invalid(1, text_of("kind p", line, "plan then()"))
                self.assert_invalid(1, text_of("kind p", line))
                self.assert_invalid(2, text_of("kind p", "kind q", line, "plan a"))
        self.assert_read(text_of("kind p", "task a role: none", "plan a"))

    def test_order_of_tasks(self):
        for line in ("task b", "task a", "task aa", "task b many: 2"):
            self.assert_invalid(2, text_of("kind p", "task b", line, "plan b"))
        self.assert_invalid(2, text_of("kind p", "task b", "kind q", "plan b"))
        self.assert_invalid(3, text_of("kind p", "task b", "task c", "task bb", "plan b"))
        self.assert_read(text_of("kind p", "task b", "task ba", "task c", "plan b"))

    def test_number_of_tasks(self):
        lines = ["kind p"] + [f"task {name}" for name in "abcdefgh"]
        self.assert_read(text_of(*lines, "plan a"))
        self.assert_invalid(9, text_of(*lines, "task i", "plan a"))
        self.assert_invalid(9, text_of(*lines))

    def test_memory(self):
        """A task line with which the book would have to remember too much is wrong itself."""
        self.assert_invalid(1, text_of("kind p", "task a other: w x y z", "plan a"))
        self.assert_invalid(2, text_of("kind p", "task a other: w x", "task b same: y z", "task c", "plan a"))
        self.assert_invalid(3, text_of("kind p", "task a many: 3 other: a", "task b other: b", "task c many: 3 takes: b"))
        self.assert_invalid(2, text_of("kind p", "task a many: 3", "task b many: 3 other: a b", "plan a"))
        self.assert_read(text_of("kind p", "task a many: 3", "task b many: 2 other: a b", "plan a"))

    def test_plan_lines(self):
        tasks = [f"task {name}" for name in "ab"]
        deep = "any(any(any(any(any(a)))))"
        for plan in ("plan", "plan ", "plan  a", "plan a ", " plan a", "plans a", "plan A", "plan c", "plan then(a, c)", "plan then(a)",
                     "plan then(a,b)", "plan then(then(a, b))", "plan then(a, then())", "plan beside(a, then())", "plan any()",
                     "plan beside(then(), then())", "plan then(then(), a)", "plan either(then(a))", "plan beside(a, beside(a, b))",
                     "plan again(a, b)", "plan then(", "plan a b", "plan a\tb", "plan any(" + deep + ")", "Plan a", "plan: a",
                     "plan then(" + ", ".join(["a"] * 17) + ")", "plan then(a, " + deep + ")", "plan abcdefghi"):
            self.assert_invalid(3, text_of("kind p", *tasks, plan))
            self.assert_invalid(3, text_of("kind p", *tasks, plan, "plan a"))
        for plan in ("plan " + deep, "plan then(" + ", ".join(["a"] * 16) + ")", "plan then()", "plan either(a)", "plan any(then())"):
            self.assert_read(text_of("kind p", *tasks, plan))

    def test_lines_that_are_missing(self):
        lines = FULL.split("\n")
        for many in range(1, len(lines)):
            self.assert_invalid(many, text_of(*lines[:many]))

    def test_lines_behind_the_plan(self):
        for more in ("", " ", "plan a", "task i", "kind r", "\n"):
            self.assert_invalid(12, FULL + "\n" + more)
        self.assert_invalid(2, "kind p\nplan then()\n")
        self.assert_invalid(1, "kind p\n")
        self.assert_invalid(1, "kind p\n\nplan then()")
        self.assert_invalid(1, "kind p\nplan then()\r\n")
        self.assert_invalid(0, "kind p\rplan then()")


class TestDamagedTexts(TextCase):
    """Texts with something left out, doubled or exchanged, against what can be read of them line by line."""

    def assert_as_by_lines(self, text):
        index = index_by_lines(text)
        if index is None:
            self.assert_read(text)
        else:
            self.assert_invalid(index, text)

    def texts(self):
        made = random.Random(51)
        return [FULL, check_book().text()] + [reference.random_book(made).text() for _ in range(30)]

    def test_lines(self):
        for text in self.texts():
            lines = text.split("\n")
            for at in range(len(lines)):
                for other in (lines[:at] + lines[at + 1:], lines[:at] + [lines[at]] + lines[at:],
                              lines[:at] + lines[at:at + 2][::-1] + lines[at + 2:], lines[:at] + [""] + lines[at:]):
                    self.assert_as_by_lines("\n".join(other))

    def test_words(self):
        for text in self.texts():
            lines = text.split("\n")
            for at, line in enumerate(lines):
                words = line.split(" ")
                for k in range(len(words)):
                    for other in (words[:k] + words[k + 1:], words[:k] + [words[k]] + words[k:],
                                  words[:k] + words[k:k + 2][::-1] + words[k + 2:], words[:k] + [""] + words[k:]):
                        self.assert_as_by_lines("\n".join(lines[:at] + [" ".join(other)] + lines[at + 1:]))

    def test_some_of_them_written_out(self):
        lines = FULL.split("\n")
        for index, other in (
            (0, lines[3:]), (10, lines[:3] + lines[4:]), (1, lines[:1] + lines), (2, lines[:1] + lines[2:3] + lines[1:2] + lines[3:]),
            (1, [lines[0]] * 2 + lines[1:]), (4, lines[:3] + [lines[4], lines[3]] + lines[5:]), (10, lines[:-2] + lines[-1:]),
            (3, lines[:3] + lines[-1:]), (11, lines[:-1]), (11, lines[:-1] + ["plan then(a)"]), (12, lines + lines[-1:]),
            (4, lines[:3] + ["task a many: 3"] + lines[3:]), (7, lines[:4] + ["task b many: 3 other: a b"] + lines[5:]),
        ):
            self.assert_invalid(index, "\n".join(other))


def is_text(text):
    """Whether it is the text of a book, by making the book that its words speak of."""
    kinds, tasks, plan = {}, {}, None
    for line in text.split("\n"):
        first, _, rest = line.partition(" ")
        name, *words = rest.split(" ")
        if first == "plan":
            plan = rest
        elif first == "kind":
            kinds[name] = words
        else:
            tasks[name] = words
    try:
        book = Book(kinds, {name: task_of(words) for name, words in tasks.items()}, read_plan(plan))
        return book.text() == text
    except Exception:
        return False


def task_of(words):
    fields, field = {}, None
    for word in words:
        if word.endswith(":"):
            field = fields.setdefault(word[:-1], [])
        else:
            field.append(word)
    for name, value in list(fields.items()):
        if name in ("role", "many"):
            fields[name] = value[0] if name == "role" else int(value[0])
    return Task(**fields)


def index_by_lines(text):
    """None for the text of a book, otherwise the number of the first line with which none starts."""
    if is_text(text):
        return None
    lines = text.split("\n")
    for at in range(len(lines)):
        start = "\n".join(lines[:at + 1])
        if not is_text(start + "\nplan then()") and not is_text(start):
            return at
    return len(lines)


class TestOtherLimits(TextCase):
    def test_kinds_without_tasks(self):
        for names in ("a", "ab", "abc"):
            book = Book(kinds_of(*names), {}, DONE)
            self.assertEqual(Book.read(book.text()), book)

    def test_names_that_are_words_of_the_text(self):
        book = Book({"kind": ["role", "many"], "plan": []}, {"task": Task("role", other=["takes"]), "plan": Task()}, ("then", "task", "plan"))
        self.assertEqual(book.text(), text_of("kind kind many role", "kind plan", "task plan", "task task role: role other: takes",
                                              "plan then(task, plan)"))
        self.assertEqual(Book.read(book.text()), book)
