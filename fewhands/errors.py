"""The errors of the package, each with the very values that it is created with."""


class InvalidName(ValueError):
    """This is no name for a person or a case, or no dict with such names."""

    def __init__(self, value):
        self.value = value


class InvalidStaff(ValueError):
    """This is no kind, no number of persons, or no dict of them."""

    def __init__(self, value):
        self.value = value


class InvalidTask(ValueError):
    """The argument of a task with this name is wrong."""

    def __init__(self, field):
        self.field = field


class InvalidKinds(ValueError):
    """These are no kinds with their roles."""

    def __init__(self, value):
        self.value = value


class InvalidTasks(ValueError):
    """This is no task, no name for one, or no dict of them."""

    def __init__(self, value):
        self.value = value


class InvalidPlan(ValueError):
    """This part of a plan is wrong by itself."""

    def __init__(self, value):
        self.value = value


class InvalidText(ValueError):
    """A text cannot be read: from this place, or this line, on."""

    def __init__(self, index):
        self.index = index


class InvalidWages(ValueError):
    """These are no wages for the kinds of the book."""

    def __init__(self, value):
        self.value = value


class InvalidPrices(ValueError):
    """These are no prices for options of the book."""

    def __init__(self, value):
        self.value = value


class InvalidLog(ValueError):
    """This is no log."""

    def __init__(self, value):
        self.value = value


class Clash(ValueError):
    """This name stands for something else already."""

    def __init__(self, name):
        self.name = name


class NotSameKinds(ValueError):
    """Two books do not have the same kinds."""


class CommandError(ValueError):
    """This is no line that a desk answers."""

    def __init__(self, value):
        self.value = value


class InUse(ValueError):
    """The plan contains the task with this name."""

    def __init__(self, name):
        self.name = name


class UnknownKind(LookupError):
    """There is no such kind."""

    def __init__(self, value):
        self.value = value


class UnknownTask(LookupError):
    """There is no such task."""

    def __init__(self, value):
        self.value = value


class UnknownStand(LookupError):
    """This is no stand of the book."""

    def __init__(self, value):
        self.value = value


class UnknownMove(LookupError):
    """This is no move at the stand."""

    def __init__(self, value):
        self.value = value


class UnknownCase(LookupError):
    """There is no such case."""

    def __init__(self, value):
        self.value = value


class UnknownPerson(LookupError):
    """There is no such person."""

    def __init__(self, value):
        self.value = value


class OutOfRange(LookupError):
    """This is no number in the range that is asked for."""

    def __init__(self, value):
        self.value = value


class TooMany(OverflowError):
    """There are more than this limit allows."""

    def __init__(self, limit):
        self.limit = limit


class TooFew(OverflowError):
    """There are too few persons of this kind."""

    def __init__(self, kind):
        self.kind = kind


class NotNow(RuntimeError):
    """This cannot be chosen, picked or done now."""

    def __init__(self, value):
        self.value = value


class WrongNumber(RuntimeError):
    """The task needs this number of persons."""

    def __init__(self, number):
        self.number = number


class Twice(RuntimeError):
    """This person is named twice."""

    def __init__(self, person):
        self.person = person


class LacksRole(RuntimeError):
    """This person does not have the role."""

    def __init__(self, person):
        self.person = person


class DidLast(RuntimeError):
    """This person is a last doer of the name, but has to be another one."""

    def __init__(self, person, name):
        self.person = person
        self.name = name


class DidNotLast(RuntimeError):
    """This person is no last doer of the name, but has to be one."""

    def __init__(self, person, name):
        self.person = person
        self.name = name


class Hopeless(RuntimeError):
    """The present staff could be stuck in this case."""

    def __init__(self, case):
        self.case = case


class InTrial(RuntimeError):
    """A trial is in progress."""
