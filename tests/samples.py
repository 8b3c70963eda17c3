"""Books for tests."""

from fewhands.books import Book
from fewhands.tasks import Task

DONE = ("then",)


def check_book():
    """The book of the document's examples."""
    return Book({"p": []}, {"enter": Task(), "check": Task(other=["enter"])}, ("then", "enter", ("either", "check", ("then",))))


def kinds_of(*names):
    return {name: [] for name in names}


def tasks_of(*names):
    return {name: Task() for name in names}


def full_tasks():
    """Eight tasks that remember three names with a width of five."""
    return {"a": Task(many=2), "b": Task(other=["a"]), "c": Task(same=["b"], takes=["d"]), "d": Task("boss", many=2),
            "e": Task(other=["d"], forgets=["a", "d"]), "f": Task(), "g": Task(takes=["b"]), "h": Task(many=3)}


def full_book():
    """A book at each of its limits: kinds, roles, tasks, remembered names, width, names and levels."""
    deep = ("either", ("any", ("then", ("again", "a"), "b"), "c"), "d")
    return Book({"p": ["x", "boss", "z", "y"], "q": [], "b": ("boss",)}, full_tasks(),
                ("then", deep, *"efghabcdefgh"))


def state(book):
    """All that can be seen of a book."""
    return (book.kinds, {name: book[name] for name in book.names}, book.names, book.plan, book.remembered, book.width,
            len(book), book.text())
