"""Games on graphs: who wins from which stands, for all staffs at once or for one staff."""


def _step(graph, masks, found, at):
    """The staffs that are not stuck at a stand and can go on to a stand where they are in the crowd that was found."""
    edges = graph.edges[at]
    if graph.turns[at] == "done":
        return -1
    if graph.turns[at] == "world":
        crowd = -1
        for _, behind in edges:
            crowd = crowd & found[behind]
        return crowd
    crowd = 0
    for need, behind in edges:
        crowd = crowd | (masks[need] & found[behind])
    return crowd


def never_stuck(graph, crowds, bounds):
    """For each stand the crowd of the staffs that need never be stuck from there on, nor leave the bounds.

    The bounds are a list of crowds for the first stands of the graph, from which moves lead to no other ones.
    """
    masks = [crowds.above(numbers) for numbers in graph.needed]
    found = list(bounds)
    is_open = [True for _ in found]
    is_changed = True
    while is_changed:
        is_changed = False
        # From the last stands on, since most moves lead to later ones.
        for at in reversed(range(len(bounds))):
            if is_open[at]:
                is_open[at] = False
                crowd = found[at] & _step(graph, masks, found, at)
                if crowd != found[at]:
                    found[at] = crowd
                    is_changed = True
                    for before in graph.before[at]:
                        if before < len(bounds):
                            is_open[before] = True
    return found


def reaching(graph, crowds):
    """For each stand the crowd of the staffs that can reach it from the first one, if they make all choices."""
    masks = [crowds.above(numbers) for numbers in graph.needed]
    found = [0 for _ in graph.stands]
    found[0] = crowds.everybody
    is_open = [at == 0 for at in range(len(found))]
    is_changed = True
    while is_changed:
        is_changed = False
        for at in range(len(graph.stands)):
            if is_open[at]:
                is_open[at] = False
                for need, behind in graph.edges[at]:
                    crowd = found[behind] | (found[at] & masks[need])
                    if crowd != found[behind]:
                        found[behind] = crowd
                        is_open[behind] = True
                        is_changed = True
    return found


def fits(needed, numbers):
    """Whether there are at least as many persons of each kind as are needed."""
    return all([need <= number for need, number in zip(needed, numbers)])


def can_make(graph, numbers):
    """For each number of what moves need, whether a staff can make them."""
    return [fits(needed, numbers) for needed in graph.needed]


def nexts(graph, can, at):
    """The stands to which the choices of the world, or the moves that the staff can make, lead, ascending."""
    is_world = graph.turns[at] == "world"
    return sorted(set([behind for need, behind in graph.edges[at] if is_world or can[need]]))


def turned_round(ahead):
    """For each of some stands those before it, where a dict tells those ahead of it, which are among them."""
    before = {at: [] for at in ahead}
    for at, row in ahead.items():
        for behind in row:
            before[behind].append(at)
    return before


def lost_ranks(graph, numbers):
    """A dict from the numbers of the stands where the world wins against a staff to ranks.

    A rank is how many moves it takes at most until the staff is stuck.
    """
    can = can_make(graph, numbers)
    ahead = {at: nexts(graph, can, at) for at in range(len(graph.stands))}
    before = turned_round(ahead)
    missing = [1 if turn == "world" else len(ahead[at]) for at, turn in enumerate(graph.turns)]
    lost = [at for at, turn in enumerate(graph.turns) if turn == "staff" and missing[at] == 0]
    ranks = {at: 0 for at in lost}
    done = 0
    while done < len(lost):
        behind = lost[done]
        done += 1
        for at in before[behind]:
            missing[at] -= 1
            if missing[at] == 0:
                ranks[at] = ranks[behind] + 1
                lost.append(at)
    return ranks


def goes_on(row, can, winners, place):
    """Whether the staff with this place can make a move, and wins from the stand behind it."""
    _, need, behind = row
    return can[need] and winners[behind] >> place & 1 == 1


def winning_moves(graph, can, winners, place):
    """The moves with which the staff with this place, one of the winners at the first stand, goes on winning.

    They are a dict from the numbers of the stands that it reaches thereby, with None where it makes no move.
    """
    found = {}
    waiting = [0]
    while waiting:
        at = waiting.pop()
        if at not in found and graph.turns[at] == "staff":
            good = [row for row in graph.rows[at] if goes_on(row, can, winners, place)]
            found[at] = good[0][0]
            waiting.append(good[0][2])
        elif at not in found:
            found[at] = None
            waiting.extend([behind for _, behind in graph.edges[at]])
    return found


def paths(graph, numbers):
    """The stands that a staff reaches from the first one, in order of the fewest moves.

    They are a dict from their numbers to (number of the stand before, move), or to None for the first one.
    """
    can = can_make(graph, numbers)
    found = {0: None}
    order = [0]
    done = 0
    while done < len(order):
        at = order[done]
        done += 1
        for move, need, behind in graph.rows[at]:
            if can[need] and behind not in found:
                found[behind] = (at, move)
                order.append(behind)
    return found


def run_to(found, at):
    """The shortest run to a stand among paths that were found."""
    moves = []
    while found[at] is not None:
        at, move = found[at]
        moves.append(move)
    return tuple(moves[::-1])


def is_stuck(graph, can, at):
    """Whether a staff that can make these moves is stuck at a stand."""
    return graph.turns[at] == "staff" and not any([can[need] for need, _ in graph.edges[at]])


def _losing_index(graph, ranks, at):
    """The first choice of the world from a stand that leads to a smaller rank."""
    good = [index for index, row in enumerate(graph.rows[at]) if ranks.get(row[2], ranks[at]) < ranks[at]]
    return good[0]


def losing_choices(graph, can, ranks):
    """The choices with which the world wins from the first stand on, which has a rank.

    They are a dict from the numbers of the stands that are reached thereby to (rank, index), with None as the index
    where it is the turn of the staff, which can make these moves.
    """
    found = {}
    waiting = [0]
    while waiting:
        at = waiting.pop()
        if at not in found and graph.turns[at] == "world":
            index = _losing_index(graph, ranks, at)
            found[at] = (ranks[at], index)
            waiting.append(graph.rows[at][index][2])
        elif at not in found:
            found[at] = (ranks[at], None)
            waiting.extend([behind for need, behind in graph.edges[at] if can[need]])
    return found
