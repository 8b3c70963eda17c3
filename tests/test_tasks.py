import itertools
import unittest

from fewhands.errors import InvalidTask
from fewhands.tasks import HandOn, Reopen, Task, Vote
from values import many_kinds

FIELDS = ("role", "many", "other", "same", "takes", "forgets")
LISTS = FIELDS[2:]
WRONG_WORDS = ("", "abcdefghi", "A", "aB", "Boss", "a1", "1", "a b", "\u00e4", "b\u00e4r", "a-b", "a\n")
RIGHT_WORDS = ("a", "z", "abcdefgh", "then", "either", "any", "again", "beside", "role", "self")


def properties(task):
    return tuple(getattr(task, field) for field in FIELDS)


class TaskCase(unittest.TestCase):
    def assert_invalid(self, field, made, *args, **named):
        with self.assertRaises(InvalidTask, msg=(field, args, named)) as caught:
            made(*args, **named)
        self.assertEqual(caught.exception.field, field, (args, named))


class TestTask(TaskCase):
    def test_without_arguments(self):
        self.assertEqual(properties(Task()), (None, 1, (), (), (), ()))

    def test_role_by_position_and_by_name(self):
        self.assertEqual(Task("boss").role, "boss")
        self.assertEqual(Task(role="boss").role, "boss")
        self.assertEqual(Task(None).role, None)

    def test_all_arguments(self):
        task = Task("boss", many=3, other=["b", "a"], same=("d", "c"), takes=["f", "e"], forgets=["h", "g", "a"])
        self.assertEqual(properties(task), ("boss", 3, ("a", "b"), ("c", "d"), ("e", "f"), ("a", "g", "h")))
        for field in LISTS:
            self.assertIs(getattr(task, field).__class__, tuple)

    def test_only_the_role_by_position(self):
        with self.assertRaises(TypeError):
            Task("boss", 2)

    def test_roles(self):
        for role in RIGHT_WORDS:
            self.assertEqual(Task(role).role, role)
        for role in WRONG_WORDS:
            self.assert_invalid("role", Task, role)
        for value in many_kinds():
            if value not in (None, "p", "self"):
                self.assert_invalid("role", Task, value)

    def test_numbers(self):
        for many in (1, 2, 3):
            self.assertEqual(Task(many=many).many, many)
        for many in (0, 4, -1, True, False, "2", "", b"2", None, 10 ** 99, -(10 ** 99), (2,), [2], {2: 2}, Task()):
            self.assert_invalid("many", Task, many=many)

    def test_lists_of_words(self):
        for field in LISTS:
            for words in ([], (), ["a"], ("a",), ["a", "b"], list(RIGHT_WORDS), tuple(RIGHT_WORDS)):
                self.assertEqual(getattr(Task(**{field: words}), field), tuple(sorted(words)))

    def test_lists_with_wrong_words(self):
        for field in LISTS:
            for word in WRONG_WORDS:
                self.assert_invalid(field, Task, **{field: [word]})
                self.assert_invalid(field, Task, **{field: ("a", word)})
            for value in many_kinds():
                if value not in ("p", "self"):
                    self.assert_invalid(field, Task, **{field: [value]})
                    self.assert_invalid(field, Task, **{field: ["a", value, "b"]})

    def test_the_same_word_twice(self):
        for field in LISTS:
            for words in (["a", "a"], ("a", "a"), ["a", "b", "a"], ["b", "a", "c", "c"]):
                self.assert_invalid(field, Task, **{field: words})

    def test_what_is_no_list(self):
        for field in LISTS:
            for value in many_kinds() + [{"a": 1}, {}, "a", "abc", None, b"a", 0]:
                if value not in ((), ("p",), [], ["p"]):
                    self.assert_invalid(field, Task, **{field: value})

    def test_several_wrong_arguments(self):
        wrong = {"role": "", "many": 0, "other": "a", "same": None, "takes": ["a", "a"], "forgets": {"a": 1}}
        for many in range(1, 7):
            for fields in itertools.combinations(FIELDS, many):
                named = {field: wrong[field] for field in reversed(fields)}
                self.assert_invalid(fields[0], Task, **named)

    def test_the_same_name_in_several_lists(self):
        task = Task(other=["a"], same=["a"], takes=["a"], forgets=["a"])
        self.assertEqual(properties(task), (None, 1, ("a",), ("a",), ("a",), ("a",)))

    def test_lists_that_are_changed_afterwards(self):
        for field in LISTS:
            words = ["b", "a"]
            task = Task(**{field: words})
            self.assertEqual(words, ["b", "a"])
            words.append("c")
            words[0] = "z"
            self.assertEqual(getattr(task, field), ("a", "b"))

    def test_properties_cannot_be_set(self):
        for field in FIELDS:
            with self.assertRaises(AttributeError):
                setattr(Task(), field, None)


class TestKinds(TaskCase):
    def test_votes(self):
        self.assertEqual(properties(Vote(2)), (None, 2, (), (), (), ()))
        self.assertEqual(properties(Vote(3, "boss", other=["b", "a"])), ("boss", 3, ("a", "b"), (), (), ()))
        self.assertEqual(properties(Vote(many=1, role="boss", other=("a",))), ("boss", 1, ("a",), (), (), ()))

    def test_wrong_votes(self):
        self.assert_invalid("many", Vote, 0)
        self.assert_invalid("many", Vote, 4, "boss")
        self.assert_invalid("many", Vote, True)
        self.assert_invalid("many", Vote, None, other="a")
        self.assert_invalid("many", Vote, "boss", None)
        self.assert_invalid("role", Vote, 0, "", other="a")
        self.assert_invalid("role", Vote, 2, 2, other="a")
        self.assert_invalid("other", Vote, 2, "boss", other="a")
        self.assert_invalid("other", Vote, 2, other=["a", "a"])

    def test_votes_have_no_other_parameters(self):
        for field in ("same", "takes", "forgets"):
            with self.assertRaises(TypeError):
                Vote(2, **{field: ["a"]})
        with self.assertRaises(TypeError):
            Vote()
        with self.assertRaises(TypeError):
            Vote(2, "boss", ["a"])

    def test_handing_on(self):
        self.assertEqual(properties(HandOn("b", "a")), (None, 1, (), (), ("a", "b"), ()))
        self.assertEqual(properties(HandOn("a", role="boss")), ("boss", 1, (), (), ("a",), ()))
        self.assertEqual(properties(HandOn("a", role=None)), (None, 1, (), (), ("a",), ()))

    def test_reopening(self):
        self.assertEqual(properties(Reopen("b", "a")), (None, 1, (), (), (), ("a", "b")))
        self.assertEqual(properties(Reopen("a", role="boss")), ("boss", 1, (), (), (), ("a",)))

    def test_wrong_names(self):
        for made, field in ((HandOn, "takes"), (Reopen, "forgets")):
            self.assert_invalid(field, made)
            self.assert_invalid(field, made, role="boss")
            self.assert_invalid(field, made, role="")
            self.assert_invalid(field, made, "a", "a")
            self.assert_invalid(field, made, "a", "b", "a", role="BOSS")
            for value in list(WRONG_WORDS) + [value for value in many_kinds() if value not in ("p", "self")]:
                self.assert_invalid(field, made, value)
                self.assert_invalid(field, made, "a", value)
                self.assert_invalid(field, made, value, role=1)

    def test_wrong_roles(self):
        for made in (HandOn, Reopen):
            for role in ("", "BOSS", 1, True, [], ("boss",), Task()):
                self.assert_invalid("role", made, "a", role=role)

    def test_they_have_no_other_parameters(self):
        for made in (HandOn, Reopen):
            for field in ("many", "other", "same", "takes", "forgets"):
                with self.assertRaises(TypeError):
                    made("a", **{field: 1})

    def test_they_are_tasks(self):
        for made in (Vote, HandOn, Reopen):
            self.assertTrue(issubclass(made, Task))
            self.assertIn("__init__", vars(made))


class TestEqual(TaskCase):
    def assert_equal(self, one, other):
        self.assertIs(one == other, True)
        self.assertIs(other == one, True)
        self.assertIs(one != other, False)

    def assert_unequal(self, one, other):
        self.assertIs(one == other, False)
        self.assertIs(other == one, False)
        self.assertIs(one != other, True)

    def test_equal_properties(self):
        self.assert_equal(Task(), Task(None, many=1, other=[], same=(), takes=[], forgets=()))
        self.assert_equal(Task(other=["b", "a"]), Task(other=("a", "b")))

    def test_equal_whatever_the_classes(self):
        self.assert_equal(Vote(2), Task(many=2))
        self.assert_equal(Vote(1), Task())
        self.assert_equal(Vote(3, "boss", other=["b", "a"]), Task("boss", many=3, other=["a", "b"]))
        self.assert_equal(HandOn("b", "a"), Task(takes=["a", "b"]))
        self.assert_equal(HandOn("a", role="boss"), Task("boss", takes=["a"]))
        self.assert_equal(Reopen("b", "a"), Task(forgets=["a", "b"]))
        self.assert_equal(Reopen("a", role="boss"), Task("boss", forgets=["a"]))

    def test_unequal_properties(self):
        tasks = [Task(), Task("a"), Task("b"), Task(many=2), Task(many=3)]
        tasks += [Task(**{field: words}) for field in LISTS for words in (["a"], ["b"], ["a", "b"])]
        for one, other in itertools.combinations(tasks, 2):
            self.assert_unequal(one, other)

    def test_unequal_to_other_values(self):
        for value in many_kinds() + [(None, 1, (), (), (), ())]:
            if not isinstance(value, Task):
                for task in (Task(), Vote(2), HandOn("p"), Reopen("p")):
                    self.assert_unequal(task, value)
