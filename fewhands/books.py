"""Books: kinds of persons, tasks and a plan."""

from fewhands.booktexts import book_text, read_book
from fewhands.checks import is_word
from fewhands.contents import are_tasks, checked_kinds, checked_plan, checked_tasks
from fewhands.errors import Clash, InUse, InvalidTasks, NotSameKinds, UnknownTask
from fewhands.forms import names_inside
from fewhands.memory import check_memory, remembered_names, width_of
from fewhands.steps import Steps
from fewhands.surveys import Survey
from fewhands.tasks import Task


class Book:
    """A procedure: the kinds of persons, the tasks, and the plan in which they are done."""

    def __init__(self, kinds, tasks, plan):
        self._kinds = checked_kinds(kinds)
        self._tasks = checked_tasks(tasks)
        self._plan = checked_plan(plan, self._tasks)
        check_memory(self._tasks)
        self._steps = None
        self._survey = None

    @property
    def kinds(self):
        """A new dict of the kinds with the ascending tuples of their roles."""
        return dict(self._kinds)

    @property
    def names(self):
        """The ascending tuple of the names of the tasks."""
        return tuple(self._tasks)

    @property
    def remembered(self):
        """The ascending tuple of the remembered names."""
        return remembered_names(self._tasks)

    @property
    def width(self):
        """The greatest number of last doers."""
        return width_of(self._tasks)

    @property
    def plan(self):
        """The plan in normal form."""
        return self._plan

    @plan.setter
    def plan(self, value):
        self.set_plan(value)

    def set_plan(self, plan):
        """Gives the book another plan."""
        self._plan = checked_plan(plan, self._tasks)
        self._forget()

    def _set_tasks(self, tasks):
        """Gives the book these tasks, among which are all tasks of its plan."""
        known = checked_tasks(tasks)
        check_memory(known)
        self._tasks = known
        self._forget()

    def _forget(self):
        """Forgets what was found out about the book as it was."""
        self._steps = None
        self._survey = None

    def __len__(self):
        return len(self._tasks)

    def __contains__(self, name):
        # Only strings are looked up: a list or a dict cannot be a key.
        return isinstance(name, str) and name in self._tasks

    def __iter__(self):
        raise TypeError("a book is not iterated over")

    def __getitem__(self, name):
        if not isinstance(name, str) or name not in self._tasks:
            raise UnknownTask(name)
        return self._tasks[name]

    def __setitem__(self, name, task):
        if not is_word(name):
            raise InvalidTasks(name)
        if not isinstance(task, Task):
            raise InvalidTasks(task)
        self._set_tasks({**self._tasks, name: task})

    def __ior__(self, other):
        if not are_tasks(other):
            raise InvalidTasks(other)
        self._set_tasks({**self._tasks, **other})
        return self

    def take(self, name):
        """Removes a task."""
        if name not in self:
            raise UnknownTask(name)
        if name in names_inside(self._plan):
            raise InUse(name)
        self._set_tasks({at: task for at, task in self._tasks.items() if at != name})

    def copied(self):
        """An equal new book."""
        return Book(self._kinds, self._tasks, self._plan)

    def __eq__(self, other):
        return (isinstance(other, Book) and self._kinds == other._kinds and self._tasks == other._tasks
                and self._plan == other._plan)

    def _joined(self, other, word):
        """The book with the tasks of both books, and the plan of both with this word."""
        if self._kinds != other._kinds:
            raise NotSameKinds()
        for name in self._tasks:
            if name in other._tasks and self._tasks[name] != other._tasks[name]:
                raise Clash(name)
        return Book(self._kinds, {**self._tasks, **other._tasks}, (word, self._plan, other._plan))

    def __add__(self, other):
        return self._joined(other, "then")

    def __or__(self, other):
        return self._joined(other, "any")

    def text(self):
        """The text of the book."""
        return book_text(self._kinds, self._tasks, self._plan)

    @classmethod
    def read(cls, text):
        """The book with exactly this text."""
        kinds, tasks, plan = read_book(text)
        return cls(kinds, tasks, plan)

    def steps(self):
        """What there is to do at the stands of the book."""
        # It is made anew after each change, and kept as long as there is none: much is found out only once.
        if self._steps is None:
            self._steps = Steps(self._kinds, self._tasks, self._plan)
        return self._steps

    def survey(self):
        """What is found out about all stands that runs reach; kept like the steps."""
        if self._survey is None:
            self._survey = Survey(self.steps(), self._kinds, (self._plan, ()))
        return self._survey
