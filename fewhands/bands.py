"""Bands: which persons can bring a book to its end together if they make all choices, and how."""

from fewhands.games import can_make, nexts, paths, run_to, turned_round


def can(book, staff):
    """Whether a staff can complete a book."""
    survey = book.survey()
    return survey.can_complete(survey.numbers_of(staff))


def band_run(book, staff):
    """A shortest complete run of a staff, or None."""
    survey = book.survey()
    found = paths(survey.graph, survey.numbers_of(staff))
    for at in found:
        if survey.graph.turns[at] == "done":
            return run_to(found, at)
    return None


def is_run(book, staff, value):
    """Whether any value is a complete run of a staff."""
    survey = book.survey()
    graph = survey.graph
    can_do = can_make(graph, survey.numbers_of(staff))
    if not isinstance(value, tuple):
        return False
    at = 0
    for move in value:
        row = graph.find_move(at, move)
        if row is None or not can_do[row[1]]:
            return False
        at = row[2]
    return graph.turns[at] == "done"


def barrier(book, staff):
    """Any barrier for a staff, or None."""
    survey = book.survey()
    graph = survey.graph
    found = paths(graph, survey.numbers_of(staff))
    if any([graph.turns[at] == "done" for at in found]):
        return None
    return tuple([graph.stands[at] for at in found])


def is_barrier(book, staff, value):
    """Whether any value is a barrier for a staff."""
    survey = book.survey()
    graph = survey.graph
    can_do = can_make(graph, survey.numbers_of(staff))
    if not isinstance(value, tuple):
        return False
    found = {graph.number_of(stand): True for stand in value}
    if len(found) < len(value) or 0 not in found or None in found:
        return False
    if any([graph.turns[at] == "done" for at in found]):
        return False
    return all([behind in found for at in found for behind in nexts(graph, can_do, at)])


def least_bands(book):
    """The tuple of all least staffs that can complete a book, ascending by their numbers."""
    survey = book.survey()
    return tuple([survey.staff_of(numbers) for numbers in survey.least_bands()])


def smallest(book):
    """The least total of a staff that can complete a book, or None."""
    return min([sum(numbers) for numbers in book.survey().least_bands()], default=None)


def _leading_to(known, can_do, rows):
    """The moves that a staff can make and that lead to known stands, as (move, number of the stand), the last first."""
    return [(move, behind) for move, need, behind in reversed(list(rows)) if can_do[need] and behind in known]


def _leading_on(graph, numbers):
    """The moves of a staff from each of the stands on its complete runs to another one of these stands.

    They are a dict from the numbers of the stands to lists of (move, number of the stand behind it), the last first.
    """
    can_do = can_make(graph, numbers)
    found = paths(graph, numbers)
    before = turned_round({at: nexts(graph, can_do, at) for at in found})
    order = [at for at in found if graph.turns[at] == "done"]
    known = {at: True for at in order}
    done = 0
    while done < len(order):
        stand = order[done]
        done += 1
        for at in before[stand]:
            if at not in known:
                known[at] = True
                order.append(at)
    return {at: _leading_to(known, can_do, graph.rows[at]) for at in known}


def _runs_through(rows, left):
    """The complete runs with one move less than there are items of left, in order.

    At each item of left are the stands from which so many moves can be the last ones.
    """
    # Here a run has None in front of its moves. What waits tells how many of its items are kept.
    run = []
    waiting = [(0, None, 0)]
    while waiting:
        kept, last, at = waiting.pop()
        del run[kept:]
        run.append(last)
        missing = len(left) - 1 - kept
        if missing == 0:
            yield tuple(run[1:])
        else:
            waiting.extend([(kept + 1, move, behind) for move, behind in rows[at] if behind in left[missing - 1]])


def runs(book, staff):
    """All complete runs of a staff, shorter ones first, then in the order of their moves."""
    survey = book.survey()
    rows = _leading_on(survey.graph, survey.numbers_of(staff))
    left = [{at: True for at in rows if survey.graph.turns[at] == "done"}]
    fronts = {0: True} if 0 in rows else {}
    while fronts:
        if 0 in left[-1]:
            yield from _runs_through(rows, left)
        left.append({at: True for at in rows if any([behind in left[-1] for _, behind in rows[at]])})
        fronts = {behind: True for at in fronts for _, behind in rows[at]}
