"""Winning: which staffs always complete a book, by which strategies, and how the world wins against the others."""

from fewhands.checks import HUGE, is_dict_of, is_natural, is_whole
from fewhands.errors import InvalidWages
from fewhands.games import can_make, losing_choices, lost_ranks, winning_moves
from fewhands.staffs import Staff


def always(book, staff):
    """Whether a staff can always complete a book."""
    survey = book.survey()
    return survey.wins(survey.numbers_of(staff))


def _strategy(survey, numbers):
    """Any strategy of the staff with these numbers, or None."""
    if not survey.wins(numbers):
        return None
    graph = survey.graph
    found = winning_moves(graph, can_make(graph, numbers), survey.winners(), survey.crowds.place(numbers))
    return {graph.stands[at]: move for at, move in found.items()}


def strategy(book, staff):
    """Any strategy of a staff, or None."""
    survey = book.survey()
    return _strategy(survey, survey.numbers_of(staff))


def _attack(survey, numbers):
    """Any attack on the staff with these numbers, or None."""
    if survey.wins(numbers):
        return None
    graph = survey.graph
    found = losing_choices(graph, can_make(graph, numbers), lost_ranks(graph, numbers))
    return {graph.stands[at]: worth for at, worth in found.items()}


def attack(book, staff):
    """Any attack on a staff, or None."""
    survey = book.survey()
    return _attack(survey, survey.numbers_of(staff))


def _numbered(graph, value):
    """A dict like any value that is a dict from stands, the first one among them, with their numbers instead.

    None for any other value.
    """
    if not isinstance(value, dict):
        return None
    found = {graph.number_of(stand): worth for stand, worth in value.items()}
    return found if 0 in found and None not in found else None


def _is_right_move(graph, can, found, at):
    """Whether the strategy that was found is right at a stand, for a staff that can make these moves."""
    if graph.turns[at] == "staff":
        row = graph.find_move(at, found[at])
        return row is not None and can[row[1]] and row[2] in found
    return found[at] is None and all([behind in found for _, behind in graph.edges[at]])


def _is_strategy(survey, numbers, value):
    """Whether any value is a strategy of the staff with these numbers."""
    graph = survey.graph
    found = _numbered(graph, value)
    if found is None:
        return False
    can = can_make(graph, numbers)
    return all([_is_right_move(graph, can, found, at) for at in found])


def is_strategy(book, staff, value):
    """Whether any value is a strategy of a staff."""
    survey = book.survey()
    return _is_strategy(survey, survey.numbers_of(staff), value)


def _is_ranked(value):
    """Whether any value is a tuple of a rank and something else."""
    return isinstance(value, tuple) and len(value) == 2 and is_natural(value[0])


def _is_right_rank(graph, can, found, at):
    """Whether the attack that was found is right at a stand, against a staff that can make these moves."""
    rank, index = found[at]
    if graph.turns[at] == "world":
        if not is_whole(index, 0, len(graph.rows[at]) - 1):
            return False
        nexts = [graph.rows[at][index][2]]
    else:
        if graph.turns[at] == "done" or index is not None:
            return False
        nexts = [behind for need, behind in graph.edges[at] if can[need]]
    return all([behind in found and found[behind][0] < rank for behind in nexts])


def _is_attack(survey, numbers, value):
    """Whether any value is an attack on the staff with these numbers."""
    graph = survey.graph
    found = _numbered(graph, value)
    if found is None or not all([_is_ranked(worth) for worth in list(found.values())]):
        return False
    can = can_make(graph, numbers)
    return all([_is_right_rank(graph, can, found, at) for at in found])


def is_attack(book, staff, value):
    """Whether any value is an attack on a staff."""
    survey = book.survey()
    return _is_attack(survey, survey.numbers_of(staff), value)


def least_staffs(book):
    """The tuple of all least staffs that always complete a book, ascending by their numbers."""
    survey = book.survey()
    return tuple([survey.staff_of(numbers) for numbers in survey.least_winners()])


def greatest_losers(book):
    """The tuple of the greatest limits of the staffs that do not always complete a book, ascending."""
    survey = book.survey()
    return tuple([survey.limits_of(numbers) for numbers in survey.greatest_losers()])


def answer(book):
    """Any answer: winners with strategies and losers with attacks, which cover all staffs."""
    survey = book.survey()
    winners = [(survey.staff_of(numbers), _strategy(survey, numbers)) for numbers in survey.least_winners()]
    losers = [(survey.limits_of(numbers), _attack(survey, numbers)) for numbers in survey.greatest_losers()]
    return (tuple(winners), tuple(losers))


def _are_pairs(value):
    """Whether any value is a tuple of tuples with two items each."""
    return isinstance(value, tuple) and all([isinstance(row, tuple) and len(row) == 2 for row in value])


def _is_winner(survey, row):
    """Whether a pair of any values is a staff of the book with a strategy."""
    staff, value = row
    if not isinstance(staff, Staff) or not survey.has_kinds_of(staff):
        return False
    return _is_strategy(survey, survey.numbers_of(staff), value)


def _is_loser(survey, row):
    """Whether a pair of any values is limits with an attack on the greatest staff within them."""
    limits, value = row
    return survey.are_limits(limits) and _is_attack(survey, survey.greatest_within(limits), value)


def is_answer(book, value):
    """Whether any value is an answer."""
    survey = book.survey()
    if not isinstance(value, tuple) or len(value) != 2 or not all([_are_pairs(part) for part in value]):
        return False
    winners, losers = value
    if not all([_is_winner(survey, row) for row in winners]) or not all([_is_loser(survey, row) for row in losers]):
        return False
    crowd = 0
    for staff, _ in winners:
        crowd = crowd | survey.crowds.above(survey.numbers_of(staff))
    for limits, _ in losers:
        crowd = crowd | survey.crowds.below(survey.greatest_within(limits))
    return crowd == survey.crowds.everybody


def fewest(book):
    """The least total of a staff that always completes a book, or None."""
    return min([sum(numbers) for numbers in book.survey().least_winners()], default=None)


def cheapest(book, wages):
    """A tuple (cost, staff) of any cheapest staff that always completes a book, or None."""
    survey = book.survey()
    kinds = book.kinds
    if not is_dict_of(kinds, wages) or not all([is_whole(wages[kind], 0, HUGE) for kind in kinds]):
        raise InvalidWages(wages)
    found = survey.least_winners()
    costs = [(sum([number * wages[kind] for number, kind in zip(numbers, kinds)]), numbers) for numbers in found]
    if not costs:
        return None
    cost, numbers = min(costs)
    return (cost, survey.staff_of(numbers))
