"""Guarding: which choices of conditions guard a book, and what bars the others."""

from fewhands.bands import band_run, barrier, is_barrier, least_bands
from fewhands.casts import cast_run, is_cast_run
from fewhands.limits import CAP
from fewhands.options import book_with, choices_by_cost, is_choice
from fewhands.staffs import Staff
from fewhands.winning import always, attack, is_attack


class Guarding:
    """A book, options with prices, how many hands must be needed, and a staff that must always complete, or None."""

    def __init__(self, book, prices, hands, staff):
        self._book = book
        self._prices = prices
        self._hands = hands
        self._staff = staff
        self._books = {}

    def _book_with(self, choice):
        """The book with a choice."""
        if choice not in self._books:
            self._books[choice] = book_with(self._book, choice)
        return self._books[choice]

    def _everybody(self):
        """The staff that can complete if any staff can."""
        return Staff.of({kind: CAP for kind in self._book.kinds})

    def bar(self, choice):
        """A bar for a choice, or None if it guards."""
        book = self._book_with(choice)
        band = min(least_bands(book), key=lambda staff: staff.total, default=None)
        if band is None:
            return ("never", choice, barrier(book, self._everybody()))
        if band.total < self._hands:
            return ("band", *cast_run(book, band, band_run(book, band)))
        if self._staff is not None and not always(book, self._staff):
            return ("lost", choice, attack(book, self._staff))
        return None

    def _bars_choice(self, bar, choice):
        """Whether a bar that is right bars a choice."""
        word, first, second = bar
        if word == "band":
            return is_cast_run(self._book_with(choice), first, second)
        return all([option in choice for option in first])

    def _is_barred(self, bars, choice):
        """Whether one of these bars bars a choice."""
        return any([self._bars_choice(bar, choice) for bar in bars])

    def cheapest(self):
        """A tuple (cost, choice) with a cheapest choice that guards, or None."""
        found = []
        for cost, choice in choices_by_cost(self._prices):
            if not self._is_barred(found, choice):
                bar = self.bar(choice)
                if bar is None:
                    return (cost, choice)
                found.append(bar)
        return None

    def bars_below(self, most):
        """A list of bars such that each choice that costs less is barred, or None if one of these choices guards."""
        found = []
        for cost, choice in choices_by_cost(self._prices):
            if cost < most and not self._is_barred(found, choice):
                bar = self.bar(choice)
                if bar is None:
                    return None
                found.append(bar)
        return found

    def _is_band(self, cast, moves):
        """Whether two values of any kinds are a cast run that makes a bar."""
        if not isinstance(cast, tuple) or not isinstance(moves, tuple) or len(cast) >= self._hands:
            return False
        kinds = self._book.kinds
        return all([isinstance(kind, str) and kind in kinds for kind in cast]) and is_cast_run(self._book, cast, moves)

    def _is_bar(self, value):
        """Whether any value is a bar."""
        if not isinstance(value, tuple) or len(value) != 3:
            return False
        word, first, second = value
        if word == "band":
            return self._is_band(first, second)
        if not is_choice(self._prices, first):
            return False
        if word == "never":
            return is_barrier(self._book_with(first), self._everybody(), second)
        return word == "lost" and self._staff is not None and is_attack(self._book_with(first), self._staff, second)

    def are_bars_below(self, most, value):
        """Whether any value is a list of bars such that each choice that costs less is barred."""
        if not isinstance(value, list) or not all([self._is_bar(bar) for bar in value]):
            return False
        below = [choice for cost, choice in choices_by_cost(self._prices) if cost < most]
        return all([self._is_barred(value, choice) for choice in below])
