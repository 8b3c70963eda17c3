"""Guards: the cheapest conditions to add so that more hands are needed."""

from fewhands.checks import is_whole
from fewhands.errors import OutOfRange
from fewhands.guarding import Guarding
from fewhands.options import book_with, book_without, check_prices, conditions_of

# The most hands that can be asked for.
MOST_HANDS = 20


def conditions(book):
    """The ascending tuple of all conditions of a book."""
    return tuple([condition for name in book.names for condition in conditions_of(name, book[name])])


def with_choice(book, choice):
    """A new book with more conditions."""
    return book_with(book, choice)


def needless(book):
    """The ascending tuple of the conditions that can be dropped, each alone, without any change of the least staffs."""
    needs = book.survey().needs()
    found = []
    for condition in conditions(book):
        if book_without(book, condition).survey().needs() == needs:
            found.append(condition)
    return tuple(found)


def _check_hands(book, hands, staff):
    """Raises the errors for any value of hands, and for a staff or None."""
    if not is_whole(hands, 0, MOST_HANDS):
        raise OutOfRange(hands)
    if staff is not None:
        book.survey().numbers_of(staff)


def _guarding(book, prices, hands, staff):
    """What the choices of options with prices do, once all of these are found right."""
    # First of all it is told if the book has too many stands, and behind the prices if all options are too much for it.
    book.survey()
    check_prices(book, prices)
    book_with(book, sorted(list(prices)))
    _check_hands(book, hands, staff)
    return Guarding(book, prices, hands, staff)


def cheapest_guard(book, prices, hands, staff=None):
    """A tuple (cost, choice) with any cheapest choice of options with prices that guards a book, or None."""
    return _guarding(book, prices, hands, staff).cheapest()


def guards(book, choice, hands, staff=None):
    """Whether a choice guards a book."""
    # As above, with the choice instead of all options.
    book.survey()
    book_with(book, choice)
    _check_hands(book, hands, staff)
    return Guarding(book, {}, hands, staff).bar(choice) is None


def bars(book, prices, hands, staff, cost):
    """Any list of bars such that each choice that costs less is barred, or None if one of these choices guards."""
    return _guarding(book, prices, hands, staff).bars_below(cost)


def is_bars(book, prices, hands, staff, cost, value):
    """Whether any value is a list of bars such that each choice that costs less is barred."""
    return _guarding(book, prices, hands, staff).are_bars_below(cost, value)
