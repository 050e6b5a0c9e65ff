"""The exceptions of the package.

Each one stands directly under CratesError, so each one keeps its own fields.
"""


class CratesError(ValueError):
    """The exception above all others of the package."""


class InvalidYard(CratesError):
    """A value is not a yard, or not the rows of one."""

    def __init__(self, value):
        self.value = value


class InvalidPrice(CratesError):
    """A value is not a price."""

    def __init__(self, value):
        self.value = value


class InvalidText(CratesError):
    """A value is not the text of a yard."""

    def __init__(self, value):
        self.value = value


class InvalidArrangement(CratesError):
    """A value is not an arrangement of the yard."""

    def __init__(self, value):
        self.value = value


class InvalidPlace(CratesError):
    """A value is not a place, or not an order of the places."""

    def __init__(self, value):
        self.value = value


class InvalidWay(CratesError):
    """A value is not a way."""

    def __init__(self, value):
        self.value = value


class InvalidCrate(CratesError):
    """A value is not the number of a crate."""

    def __init__(self, value):
        self.value = value


class InvalidMove(CratesError):
    """A value is not a move that is allowed."""

    def __init__(self, value):
        self.value = value


class InvalidRow(CratesError):
    """A value is not a list of moves."""

    def __init__(self, value):
        self.value = value


class InvalidCount(CratesError):
    """A value is not a number within the bounds."""

    def __init__(self, value):
        self.value = value


class InvalidPattern(CratesError):
    """A value is not a pattern of the yard."""

    def __init__(self, value):
        self.value = value


class InvalidPaper(CratesError):
    """A value is not a paper."""

    def __init__(self, value):
        self.value = value


class InvalidLot(CratesError):
    """A value is not a lot."""

    def __init__(self, value):
        self.value = value


class InvalidCosts(CratesError):
    """A value is not a list of known least costs."""

    def __init__(self, value):
        self.value = value


class InvalidLine(CratesError):
    """A value is not a command of the desk."""

    def __init__(self, value):
        self.value = value


class NotAllowed(CratesError):
    """The move of a row with this index is not allowed in its moment."""

    def __init__(self, index):
        self.index = index


class TooMany(CratesError):
    """There are too many crates for this question."""

    def __init__(self, count):
        self.count = count


class NoWay(CratesError):
    """No row leads from the one arrangement to the other."""

    def __init__(self, start, goal):
        self.start = start
        self.goal = goal


class UnlikeYards(CratesError):
    """Two yards or lots have unlike numbers of crates."""


class NoYard(CratesError):
    """No yard lies on the desk."""


class NothingToUndo(CratesError):
    """No change is left that can be taken back."""


class NothingToRedo(CratesError):
    """No change is left that can be made again."""
