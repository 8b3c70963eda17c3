"""Options: conditions that can be added to a book, and what they cost."""

from fewhands.books import Book
from fewhands.checks import HUGE, is_whole, is_word
from fewhands.errors import InvalidPrices, UnknownTask
from fewhands.tasks import Task

# The words of conditions.
WORDS = ("other", "same")

# The most options that have prices.
MOST_OPTIONS = 5


def conditions_of(name, task):
    """The list of the conditions of one task, ascending."""
    found = [(name, "other", known) for known in task.other]
    return [*found, *[(name, "same", known) for known in task.same]]


def _with_conditions(name, task, choice):
    """The task with this name with those of the conditions that are its own, too."""
    other = [known for at, word, known in choice if at == name and word == "other"]
    same = [known for at, word, known in choice if at == name and word == "same"]
    return Task(
        task.role, many=task.many, takes=task.takes, forgets=task.forgets,
        other=sorted(set([*task.other, *other])), same=sorted(set([*task.same, *same])),
    )


def book_with(book, choice):
    """A new book with more conditions."""
    for name, _, _ in choice:
        if name not in book:
            raise UnknownTask(name)
    return Book(book.kinds, {name: _with_conditions(name, book[name], choice) for name in book.names}, book.plan)


def book_without(book, condition):
    """A new book without one of the conditions of a book."""
    at, word, gone = condition
    task = book[at]
    other = [name for name in task.other if word != "other" or name != gone]
    same = [name for name in task.same if word != "same" or name != gone]
    found = book.copied()
    found[at] = Task(task.role, many=task.many, takes=task.takes, forgets=task.forgets, other=other, same=same)
    return found


def _is_option(book, value):
    """Whether any value is a condition that the book can have, but does not have."""
    if not isinstance(value, tuple) or len(value) != 3:
        return False
    name, word, known = value
    if name not in book or word not in WORDS or not is_word(known):
        return False
    return value not in conditions_of(name, book[name])


def check_prices(book, prices):
    """Raises the error for any prices that are none."""
    if not isinstance(prices, dict) or not 1 <= len(prices) <= MOST_OPTIONS:
        raise InvalidPrices(prices)
    if not all([_is_option(book, option) and is_whole(price, 1, HUGE) for option, price in prices.items()]):
        raise InvalidPrices(prices)


def is_choice(prices, value):
    """Whether any value is a choice of options with prices."""
    return isinstance(value, tuple) and list(value) == [option for option in sorted(list(prices)) if option in value]


def choices_by_cost(prices):
    """All choices of options with prices, each with its cost, cheaper ones first."""
    found = [(0, ())]
    for option in sorted(list(prices)):
        found.extend([(cost + prices[option], (*choice, option)) for cost, choice in list(found)])
    return sorted(found)
