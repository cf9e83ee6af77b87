"""The errors that the program raises."""


class RiseError(ValueError):
    """The base class of all errors of the program."""


class BadSign(RiseError):
    """A string has a character that is not a sign; `at` is the index of the first one."""

    def __init__(self, at):
        super().__init__(f"no sign at the index {at}")
        self.at = at


class NoPlace(RiseError):
    """A row has no pair at the index `at`."""

    def __init__(self, at):
        super().__init__(f"the row has no index {at}")
        self.at = at


class Mismatch(RiseError):
    """A rule does not fit at the index `at`."""

    def __init__(self, at):
        super().__init__(f"the rule does not fit at the index {at}")
        self.at = at


class BadHeight(RiseError):
    """A height is too low or too high."""

    def __init__(self, height):
        super().__init__(f"the height {height} is not allowed")
        self.height = height


class Beyond(RiseError):
    """A step would write a height beyond the greatest one that is allowed."""

    def __init__(self, height):
        super().__init__(f"the step would write the height {height}")
        self.height = height


class NoRule(RiseError):
    """A book has no rule with this number."""

    def __init__(self, number):
        super().__init__(f"the book has no rule {number}")
        self.number = number


class BadLine(RiseError):
    """A line of a written book is not a rule; lines are counted from 1."""

    def __init__(self, line):
        super().__init__(f"the line {line} is not a rule")
        self.line = line


class BadPlay(RiseError):
    """A step of a play cannot be taken."""

    def __init__(self, step):
        super().__init__(f"the step {step} cannot be taken")
        self.step = step


class BadBound(RiseError):
    """A bound is too low or too high."""

    def __init__(self, most):
        super().__init__(f"the bound {most} is not allowed")
        self.most = most


class TooLarge(RiseError):
    """A question is too large."""

    def __init__(self, size):
        super().__init__(f"the question has the size {size}")
        self.size = size


class NotEnough(RiseError):
    """A bound is not enough; `least` is the length of the shortest text that shows it."""

    def __init__(self, least):
        super().__init__(f"a text of {least} signs leads beyond the bound")
        self.least = least


class TooLong(RiseError):
    """The shortest text of a play is too long."""

    def __init__(self, least):
        super().__init__(f"the shortest text has {least} signs")
        self.least = least


class Uneven(RiseError):
    """A row was given another number of heights than of signs."""


class BadRule(RiseError):
    """A side of a rule has a wrong number of signs."""


class BookFull(RiseError):
    """A book has no room for another rule."""


class BadLot(RiseError):
    """A lot was given states, moves or texts that it cannot have."""


class Useless(BadLot):
    """A state of a lot is on no way from the first state to a last one."""

    def __init__(self, state):
        super().__init__(f"the state {state} is useless")
        self.state = state
