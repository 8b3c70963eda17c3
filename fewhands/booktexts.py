"""The texts of books, and reading them line by line."""

from fewhands.checks import is_word
from fewhands.contents import are_roles, checked_plan
from fewhands.errors import InvalidTask, InvalidText, TooMany, UnknownTask
from fewhands.limits import KINDS, TASKS
from fewhands.memory import check_memory
from fewhands.plans import plan_text, read_plan
from fewhands.tasks import Task

_FIELDS = ("role:", "many:", "other:", "same:", "takes:", "forgets:")
_DIGITS = {"1": 1, "2": 2, "3": 3}


def _kind_line(kind, roles):
    """The line of a kind."""
    return " ".join(["kind", kind, *sorted(roles)])


def _task_line(name, task):
    """The line of a task."""
    parts = ["task", name]
    if task.role is not None:
        parts.extend(["role:", task.role])
    if task.many != 1:
        parts.extend(["many:", str(task.many)])
    lists = (("other:", task.other), ("same:", task.same), ("takes:", task.takes), ("forgets:", task.forgets))
    for field, names in lists:
        if names:
            parts.extend([field, *names])
    return " ".join(parts)


def book_text(kinds, tasks, plan):
    """The text of a book with these kinds and tasks, both ascending, and a plan in normal form."""
    lines = [_kind_line(kind, roles) for kind, roles in kinds.items()]
    lines.extend([_task_line(name, task) for name, task in tasks.items()])
    return "\n".join([*lines, f"plan {plan_text(plan)}"])


def _read_kind(line):
    """The kind in a line with its roles, or None if it is no such line."""
    words = line.split(" ")
    if len(words) < 2 or not is_word(words[1]) or not are_roles(words[2:]):
        return None
    # Each kind has one line alone: another order or another first word is no line of a book.
    return (words[1], words[2:]) if _kind_line(words[1], words[2:]) == line else None


def _fields_of(words):
    """The words behind each name of a field, or None if the first one is no such name."""
    fields = {}
    field = None
    for word in words:
        if word in _FIELDS:
            field = word
            fields[field] = []
        elif field is None:
            return None
        else:
            fields[field].append(word)
    return fields


def _task_of(fields):
    """The task with these fields, each a list of words."""
    role = " ".join(fields["role:"]) if "role:" in fields else None
    many = _DIGITS.get(" ".join(fields.get("many:", ["1"])), 0)
    return Task(role, many=many, other=fields.get("other:", []), same=fields.get("same:", []),
                takes=fields.get("takes:", []), forgets=fields.get("forgets:", []))


def _read_task(line):
    """The name in a line with its task, or None if it is no such line."""
    words = line.split(" ")
    fields = _fields_of(words[2:])
    if len(words) < 2 or not is_word(words[1]) or fields is None:
        return None
    try:
        task = _task_of(fields)
    except InvalidTask:
        return None
    # Each task has one line alone: another order or a field too many is no line of a book.
    return (words[1], task) if _task_line(words[1], task) == line else None


def _read_plan(line, tasks):
    """The plan in a line, or None if no book with these tasks has this line."""
    if not line.startswith("plan "):
        return None
    try:
        plan = read_plan(line[len("plan "):])
        form = checked_plan(plan, tasks)
    except (InvalidText, TooMany, UnknownTask):
        return None
    return plan if form == plan else None


def _can_be_remembered(tasks):
    """Whether a book can have these tasks."""
    try:
        check_memory(tasks)
    except TooMany:
        return False
    return True


def _read_kinds(lines):
    """The kinds in the first lines, as many as a book can begin with."""
    kinds = {}
    last = ""
    for line in lines:
        found = _read_kind(line)
        if found is None or len(kinds) == KINDS or found[0] <= last:
            return kinds
        last = found[0]
        kinds[last] = found[1]
    return kinds


def _read_tasks(lines):
    """The tasks in the first lines, as many as a book can have there.

    More tasks never make a book remember less, so each line has to be right with those before it.
    """
    tasks = {}
    last = ""
    for line in lines:
        found = _read_task(line)
        if found is None or len(tasks) == TASKS or found[0] <= last:
            return tasks
        if not _can_be_remembered({**tasks, found[0]: found[1]}):
            return tasks
        last = found[0]
        tasks[last] = found[1]
    return tasks


def read_book(text):
    """The kinds, the tasks and the plan of the book with exactly this text."""
    if not isinstance(text, str):
        raise InvalidText(0)
    lines = text.split("\n")
    kinds = _read_kinds(lines)
    tasks = _read_tasks(lines[len(kinds):])
    at = len(kinds) + len(tasks)
    # Without a kind the first line is wrong, whatever it is.
    if not kinds:
        raise InvalidText(0)
    if at == len(lines):
        raise InvalidText(at)
    plan = _read_plan(lines[at], tasks)
    if plan is None:
        raise InvalidText(at)
    if at + 1 < len(lines):
        raise InvalidText(at + 1)
    return kinds, tasks, plan
