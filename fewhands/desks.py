"""Desks: offices by lines of text."""

from fewhands.bands import smallest
from fewhands.errors import CommandError
from fewhands.missing import outlasted, spared
from fewhands.plans import plan_text
from fewhands.winning import fewest

DIGITS = "0123456789"

# The most digits of an index.
LONGEST_INDEX = 30


def _start(desk, words):
    desk.office.start(words[0])
    return "ok"


def _choose(desk, words):
    desk.office.choose(words[0], int(words[1]))
    return "ok"


def _pick(desk, words):
    desk.office.pick(words[0], int(words[1]))
    return "ok"


def _do(desk, words):
    desk.office.do(*words)
    return "ok"


def _join(desk, words):
    desk.office.join(words[0], words[1])
    return "ok"


def _leave(desk, words):
    desk.office.leave(words[0])
    return "ok"


def _undo(desk, words):
    desk.office.undo()
    return "ok"


def _redo(desk, words):
    desk.office.redo()
    return "ok"


def _listed(words):
    """Words with spaces between, or the sign for none."""
    return " ".join(words) if words else "-"


def _told(number):
    """A number, or the sign for none."""
    return "-" if number is None else str(number)


def _running(desk, words):
    return _listed(desk.office.running)


def _doers(desk, words):
    return _listed(desk.office.doers(words[0], words[1]))


def _left(desk, words):
    plan, _ = desk.office.stand(words[0])
    return plan_text(plan)


def _staff(desk, words):
    return _listed([f"{kind} {number}" for kind, number in desk.office.staff.numbers().items()])


def _fewest(desk, words):
    return _told(fewest(desk._book))


def _smallest(desk, words):
    return _told(smallest(desk._book))


def _spared(desk, words):
    return _told(spared(desk._book, desk.office.staff))


def _outlasted(desk, words):
    return _told(outlasted(desk._book, desk.office.staff))


# What answers a line, by its first word.
ACTIONS = {
    "start": _start, "choose": _choose, "pick": _pick, "do": _do, "join": _join, "leave": _leave, "undo": _undo,
    "redo": _redo, "running": _running, "doers": _doers, "left": _left, "staff": _staff, "fewest": _fewest,
    "smallest": _smallest, "spared": _spared, "outlasted": _outlasted,
}

# How many words there are behind it, at least with "do".
BEHIND = {
    "start": 1, "choose": 2, "pick": 2, "do": 2, "join": 2, "leave": 1, "undo": 0, "redo": 0, "running": 0, "doers": 2,
    "left": 1, "staff": 0, "fewest": 0, "smallest": 0, "spared": 0, "outlasted": 0,
}


def _is_index(word):
    """Whether it is a decimal integer without leading zeros."""
    if not all([digit in DIGITS for digit in word]) or len(word) > LONGEST_INDEX:
        return False
    return word == "0" or word[0] != "0"


def _is_command(words):
    """Whether these are the words of a line that is no trial."""
    if not words or "" in words or words[0] not in ACTIONS:
        return False
    more = len(words) - 1 - BEHIND[words[0]]
    if more < 0 or more > 0 and words[0] != "do":
        return False
    return words[0] not in ("choose", "pick") or _is_index(words[2])


class Desk:
    """An office that is asked and told by lines."""

    def __init__(self, office):
        self.office = office
        # An office never changes its book.
        self._book = office.book

    def run(self, line):
        """The answer to any value that is a line, once it is done."""
        words = line.split(" ") if isinstance(line, str) else []
        is_trial = words[:1] == ["try"]
        command = words[1:] if is_trial else words
        if not _is_command(command):
            raise CommandError(line)
        action = ACTIONS[command[0]]
        if is_trial:
            return self.office.tried(lambda office: action(self, command[1:]))
        return action(self, command[1:])

    def __call__(self, line):
        return self.run(line)


def _all_answers(desk, lines):
    """The list of the answers of a desk to lines."""
    return [desk.run(line) for line in lines]


def answers(office, lines):
    """The list of the answers of a new desk to lines; all their actions are one for undo."""
    return office.attempt(lambda held: _all_answers(Desk(held), lines))
