"""Values of many kinds, for the tests of what takes any value."""

from fewhands.books import Book
from fewhands.errors import InvalidName
from fewhands.staffs import Staff
from fewhands.tasks import HandOn, Task


def many_kinds():
    """Values of every kind that "any value" means, each list and dict a new one."""
    return [
        None, True, False, 0, 1, -1, 7, 10 ** 99, -(10 ** 99),
        "", "p", "P", "self", "ninechars", "two words", "%s", "\u00e9", "\ud800", b"", b"p\x00",
        (), ("p",), (("p", 1), [2]), [], ["p"], [[1], {"p": None}], {}, {"p": 1}, {1: "p", "p": [()]},
        Staff(), Staff(p=1), InvalidName("p"), Task(), HandOn("p"), Book({"p": []}, {"p": Task()}, "p"),
        nested(20), nested_tuples(20),
    ]


def nested(depth):
    """A list in a list and so on, with as many lists as depth says."""
    value = []
    for _ in range(depth - 1):
        value = [value]
    return value


def nested_tuples(depth):
    """A tuple in a tuple and so on, with as many tuples as depth says."""
    value = ()
    for _ in range(depth - 1):
        value = (value,)
    return value
