"""The refusals: one class each, all under YardError."""


class YardError(ValueError):
    """Any refusal."""


class NoYard(YardError):
    """What was handed in tells no yard."""


class NoGuest(YardError):
    """What was handed in tells no guest of the yard."""


class NoRoom(YardError):
    """Not all can be filled; the set in the field some shows it."""

    def __init__(self, some):
        # Without the base's call the error would keep the asker's own list beside the copy.
        YardError.__init__(self, "a set wants more than it can be given")
        self.some = list(some)


class NoTime(YardError):
    """The turn is over, or no turn is left."""


class NoNumber(YardError):
    """No guest has the number in the field number."""

    def __init__(self, number):
        # The words leave the number out: Python writes no number of some thousand figures.
        YardError.__init__(self, "no guest has this number")
        self.number = number


class NoText(YardError):
    """The row whose number is in the field row isn't written as it must be."""

    def __init__(self, row):
        YardError.__init__(self, "a row is wrong or lacks")
        self.row = row


class NoRow(YardError):
    """What a desk was told is no row of its."""
