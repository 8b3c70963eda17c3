"""Logs: which staffs could have done tasks in some order."""

from fewhands.checks import is_word
from fewhands.errors import InvalidLog
from fewhands.ways import fronts

# The most names in a log.
LONGEST_LOG = 200


def _check_log(log):
    """Raises the error for any value that is no log."""
    if not isinstance(log, (list, tuple)) or len(log) > LONGEST_LOG or not all([is_word(name) for name in log]):
        raise InvalidLog(log)


def _edges_by_name(graph, at):
    """What moves from a stand need and lead to, by the tasks that they do, or by None where they do none."""
    found = {}
    places = fronts(graph.stands[at][0])
    for move, need, behind in graph.rows[at]:
        name = places[move[1]] if move[0] == "do" else None
        if name not in found:
            found[name] = {}
        found[name][need, behind] = True
    return found


def _with_choices(edges, masks, found):
    """The crowds at stands, with those at the stands that are reached from there without deeds."""
    known = {at: found[at] for at in found}
    waiting = list(found)
    while waiting:
        at = waiting.pop()
        for need, behind in edges[at].get(None, {}):
            before = known.get(behind, 0)
            known[behind] = before | (known[at] & masks[need])
            if known[behind] != before:
                waiting.append(behind)
    return known


def _behind_deeds(edges, masks, found, name):
    """The crowds at the stands that are reached from stands with crowds by doing the task with this name once."""
    known = {}
    for at in found:
        for need, behind in edges[at].get(name, {}):
            crowd = known.get(behind, 0) | (found[at] & masks[need])
            if crowd:
                known[behind] = crowd
    return known


def _crowd_for(survey, log):
    """The crowd of the staffs that could have done a log."""
    graph = survey.graph
    masks = [survey.crowds.above(numbers) for numbers in graph.needed]
    edges = [_edges_by_name(graph, at) for at in range(len(graph.stands))]
    found = {0: survey.crowds.everybody}
    for name in log:
        found = _behind_deeds(edges, masks, _with_choices(edges, masks, found), name)
    crowd = 0
    for part in list(found.values()):
        crowd = crowd | part
    return crowd


def could_have(book, staff, log):
    """Whether a staff could have done a log."""
    survey = book.survey()
    place = survey.crowds.place(survey.numbers_of(staff))
    _check_log(log)
    return _crowd_for(survey, log) >> place & 1 == 1


def _least_for(book, log):
    """The numbers of all least staffs that could have done a log."""
    survey = book.survey()
    _check_log(log)
    return survey.crowds.least(_crowd_for(survey, log))


def least_for(book, log):
    """The tuple of all least staffs that could have done a log, ascending by their numbers."""
    return tuple([book.survey().staff_of(numbers) for numbers in _least_for(book, log)])


def fewest_for(book, log):
    """The least total of a staff that could have done a log, or None."""
    return min([sum(numbers) for numbers in _least_for(book, log)], default=None)
