"""Crowds: sets of staffs, as integers with one bit for each staff."""


class Crowds:
    """The sets of staffs with so many kinds, of each of which there are at most so many persons.

    A staff is here a tuple of numbers, one for each kind. Its place is the number that has these digits,
    so ascending places are ascending staffs. A crowd has the bit at the place of each of its staffs.
    """

    def __init__(self, many_kinds, most):
        self._most = most
        strides = [1]
        for _ in range(many_kinds):
            strides = [strides[0] * (most + 1), *strides]
        self._strides = strides[1:]
        self._places = strides[0]
        self.everybody = (1 << self._places) - 1
        self._from = [[self._with_at_least(stride, least) for least in range(most + 2)] for stride in self._strides]

    def _with_at_least(self, stride, least):
        """The staffs with at least so many persons of the kind whose digit has this stride."""
        period = stride * (self._most + 1)
        part = (1 << period) - (1 << (stride * least))
        crowd = 0
        for start in range(0, self._places, period):
            crowd = crowd | (part << start)
        return crowd

    def place(self, numbers):
        """The place of a staff; numbers that are too great count as the greatest one."""
        return sum([min(number, self._most) * stride for number, stride in zip(numbers, self._strides)])

    def above(self, numbers):
        """The staffs with at least these numbers, which may be too great ones."""
        crowd = self.everybody
        for at, number in enumerate(numbers):
            crowd = crowd & self._from[at][min(number, self._most + 1)]
        return crowd

    def below(self, numbers):
        """The staffs with at most these numbers."""
        crowd = self.everybody
        for at, number in enumerate(numbers):
            crowd = crowd & ~self._from[at][number + 1]
        return crowd

    def with_more_than(self, at, number):
        """The staffs with more than so many persons of a kind."""
        return self._from[at][number + 1]

    def with_one_more(self, at, crowd):
        """The staffs that become one of the crowd if one person of a kind is missing."""
        return (crowd << self._strides[at]) & self._from[at][1]

    def _with_one_less(self, at, crowd):
        """The staffs that become one of the crowd by one more person of a kind."""
        return (crowd & self._from[at][1]) >> self._strides[at]

    def members(self, crowd):
        """The list of the staffs of a crowd, ascending."""
        return [
            tuple([place // stride % (self._most + 1) for stride in self._strides])
            for place in range(self._places) if crowd >> place & 1
        ]

    def least(self, crowd):
        """The least staffs of a crowd that has with a staff all greater ones, ascending."""
        found = crowd
        for at in range(len(self._strides)):
            found = found & ~self.with_one_more(at, crowd)
        return self.members(found)

    def greatest_outside(self, crowd):
        """The greatest staffs that are not in a crowd that has with a staff all greater ones, ascending."""
        outside = self.everybody & ~crowd
        found = outside
        for at in range(len(self._strides)):
            found = found & ~self._with_one_less(at, outside)
        return self.members(found)
