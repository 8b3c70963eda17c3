"""The rules of the document written down a second time, as plainly as possible, and random inputs for both."""

import functools
import itertools

from fewhands.books import Book
from fewhands.errors import TooMany
from fewhands.tasks import Task

DONE = ("then",)
LEAST = {"then": 0, "either": 1, "any": 1, "again": 1, "beside": 2}
MOST = {"again": 1, "beside": 2}


# Plans.

def is_tuple(plan):
    return isinstance(plan, tuple)


def is_wrong_alone(value, within):
    if isinstance(value, str):
        return not (1 <= len(value) <= 8 and set(value) <= set("abcdefghijklmnopqrstuvwxyz"))
    if not is_tuple(value) or len(value) == 0 or not isinstance(value[0], str) or value[0] not in LEAST:
        return True
    many = len(value) - 1
    return many < LEAST[value[0]] or many > MOST.get(value[0], many) or within and value[0] == "beside"


def parts_in_order(value, within=False):
    """Each part of a value with whether it stands in a "beside": a part before its own parts."""
    yield value, within
    if is_tuple(value):
        for part in value[1:]:
            yield from parts_in_order(part, within or value[:1] == ("beside",))


def wrong_parts(value):
    return [part for part, within in parts_in_order(value) if is_wrong_alone(part, within)]


def rewritten(plan):
    """The plan after one rewriting of [21] somewhere, or None if there is none to do."""
    if not is_tuple(plan):
        return None
    for at, part in list(enumerate(plan))[1:]:
        new = rewritten(part)
        if new is not None:
            return plan[:at] + (new,) + plan[at + 1:]
        if plan[0] == "then" and is_tuple(part) and part[0] == "then":
            return plan[:at] + part[1:] + plan[at + 1:]
    if plan[0] == "then" and len(plan) == 2:
        return plan[1]
    if plan[0] == "beside" and DONE in plan[1:]:
        return plan[2] if plan[1] == DONE else plan[1]
    return None


def normal_form(plan):
    new = rewritten(plan)
    return plan if new is None else normal_form(new)


def at_path(plan, path):
    return plan if not path else at_path(plan[path[0]], path[1:])


def put(plan, path, new):
    if not path:
        return new
    return plan[:path[0]] + (put(plan[path[0]], path[1:], new),) + plan[path[0] + 1:]


def choice_path(plan):
    """The path to the first choice of the world in a plan in normal form, or None."""
    if not is_tuple(plan) or plan[0] == "any" or plan == DONE:
        return None
    if plan[0] in ("either", "again"):
        return ()
    for at in (1, 2) if plan[0] == "beside" else (1,):
        path = choice_path(plan[at])
        if path is not None:
            return (at,) + path
    return None


def place_paths(plan):
    """The paths to the places of the staff in a plan in normal form."""
    if not is_tuple(plan) or plan[0] == "any":
        return [()]
    sides = (1, 2) if plan[0] == "beside" else (1,)
    return [(at,) + path for at in sides for path in place_paths(plan[at])]


def turn_of(plan):
    if plan == DONE:
        return "done"
    return "staff" if choice_path(plan) is None else "world"


def branches(plan):
    if plan[0] == "again":
        return [DONE, ("then", plan[1], plan)]
    return list(plan[1:])


def plan_moves(plan):
    """All (word, place, index or name, plan behind it) at a plan in normal form."""
    if turn_of(plan) == "done":
        return []
    if turn_of(plan) == "world":
        path = choice_path(plan)
        return [("choose", None, index, normal_form(put(plan, path, branch)))
                for index, branch in enumerate(branches(at_path(plan, path)))]
    found = []
    for place, path in enumerate(place_paths(plan)):
        here = at_path(plan, path)
        if is_tuple(here):
            found += [("pick", place, index, normal_form(put(plan, path, branch)))
                      for index, branch in enumerate(branches(here))]
        else:
            found.append(("do", place, here, normal_form(put(plan, path, DONE))))
    return found


def plans_left(plan):
    """The set of all plans that moves leave of a plan."""
    found = [normal_form(plan)]
    for here in found:
        found += list(dict.fromkeys(left for *_, left in plan_moves(here) if left not in found))
    return set(found)


# Texts of plans: what can still be read, as stacks of signs. A sign is a letter or the like, or one of
# ("plan", within), ("name", letters left), ("more", word, parts, within).

@functools.lru_cache(maxsize=None)
def expanded(stack):
    """The stacks with a plain sign on top, or empty, that a stack can become without reading anything."""
    if not stack or isinstance(stack[-1], str):
        return [stack]
    kind, rest = stack[-1], stack[:-1]
    if kind[0] == "plan":
        found = [rest + (("name", 8, True),)]
        for word in LEAST:
            if word != "beside" or not kind[1]:
                within = kind[1] or word == "beside"
                found.append(rest + (("more", word, 0, within),) + tuple(reversed(word + "(")))
    elif kind[0] == "name":
        found = [] if kind[2] else [rest]
        if kind[1] > 0:
            found += [rest + (("name", kind[1] - 1, False), letter) for letter in "abcdefghijklmnopqrstuvwxyz"]
    else:
        _, word, parts, within = kind
        found = [rest + (")",)] if parts >= LEAST[word] else []
        if parts < MOST.get(word, parts + 1):
            found.append(rest + (("more", word, parts + 1, within), ("plan", within))
                         + ((" ", ",") if parts else ()))
    return [done for new in found for done in expanded(new)]


def text_index(text):
    """None for the text of a plan, otherwise the length of the longest prefix with which one starts."""
    stacks = set(expanded((("plan", False),)))
    for index, sign in enumerate(text):
        stacks = {new for stack in stacks if stack and stack[-1] == sign for new in expanded(stack[:-1])}
        if not stacks:
            return index
    return None if () in stacks else len(text)


# Persons.

def persons_at(book, stand):
    """The persons at a stand, three free ones of each kind among them: their kinds, and the last doers by name."""
    kinds = [kind for kind, _ in stand[1]] + [kind for kind in book.kinds for _ in range(3)]
    last = {name: {at for at, (_, names) in enumerate(stand[1]) if name in names} for name in book.remembered}
    return kinds, last


def member(kinds, last, person):
    return kinds[person], tuple(sorted(name for name in last if person in last[name]))


def can_do(book, kinds, last, task, group):
    for person in group:
        if task.role is not None and task.role not in book.kinds[kinds[person]]:
            return False
        if any(person in last[name] for name in task.other) or any(person not in last[name] for name in task.same):
            return False
    return True


def last_behind(book, last, name, group):
    """The last doers after this group has done the task with this name."""
    new = {}
    for at in last:
        if at == name or at in book[name].takes:
            new[at] = set(group)
        elif at in book[name].forgets:
            new[at] = set()
        else:
            new[at] = set(last[at])
    return new


def deeds(book, stand, name):
    """Each group of members that can do the task at the stand, with the blocks behind it."""
    kinds, last = persons_at(book, stand)
    found = {}
    for group in itertools.combinations(range(len(kinds)), book[name].many):
        if can_do(book, kinds, last, book[name], group):
            new = last_behind(book, last, name, group)
            members = [member(kinds, new, person) for person in range(len(kinds))]
            blocks = tuple(sorted(block for block in members if block[1]))
            shown = tuple(sorted(member(kinds, last, person) for person in group))
            assert found.setdefault(shown, blocks) == blocks
    return sorted(found.items())


def stand_moves(book, stand):
    """All moves at a stand in order, each with the stand behind it."""
    found = []
    for word, place, what, left in plan_moves(stand[0]):
        if word == "do":
            found += [(("do", place, group), (left, blocks)) for group, blocks in deeds(book, stand, what)]
        else:
            found.append(((word, what) if word == "choose" else (word, place, what), (left, stand[1])))
    return found


def move_needs(stand, move):
    """How many persons of each kind a move needs, by name."""
    found = {}
    for kind, _ in stand[1]:
        found[kind] = found.get(kind, 0) + 1
    for kind, names in move[2] if move[0] == "do" else ():
        if not names:
            found[kind] = found.get(kind, 0) + 1
    return dict(sorted(found.items()))


def all_stands(book, limit):
    """The stands that runs reach, in order; at most about as many as the limit says."""
    found = [(normal_form(book.plan), ())]
    for stand in found:
        for _, behind in stand_moves(book, stand):
            if behind not in found:
                found.append(behind)
        if len(found) > limit:
            break
    return found


# Random inputs.

def random_plan(random, names, depth, within=False):
    word = random.choice(["then", "then", "either", "any", "again", "beside", None, None])
    if depth == 0 or word is None:
        return random.choice(names)
    if word == "beside" and within:
        word = "then"
    least = LEAST[word]
    many = random.randint(least, MOST.get(word, 3))
    return (word,) + tuple(random_plan(random, names, depth - 1, within or word == "beside") for _ in range(many))


def random_task(random, names, roles):
    def some():
        return random.sample(names, random.choice([0, 0, 0, 1, 1, 2])) if len(names) > 1 else []
    return Task(random.choice(roles), many=random.choice([1, 1, 1, 2, 2, 3]),
                other=some(), same=some() if random.random() < 0.5 else [], takes=some(), forgets=some())


def random_book(random):
    """A book with all limits, at the first attempt that gives one."""
    while True:
        kinds = {kind: random.sample(["r", "s"], random.randint(0, 2))
                 for kind in random.sample(["b", "p", "q"], random.randint(1, 3))}
        names = random.sample(["a", "b", "c", "d", "then"], random.randint(1, 4))
        known = names + random.sample(["x", "y"], random.randint(0, 1))
        tasks = {name: random_task(random, known, [None, None, "r"]) for name in names}
        try:
            return Book(kinds, tasks, random_plan(random, names, 4))
        except TooMany:
            pass
