"""The refusals of the program."""


class TowError(ValueError):
    """Any refusal."""


class BadBook(TowError):
    """What is handed in as a book is none."""


class BadPlan(TowError):
    """What is handed in as a plan is none, or not one that is wanted there."""


class NoPlan(TowError):
    """No plan is as it is wanted; `table` shows it."""

    def __init__(self, table):
        TowError.__init__(self, "no plan is as it is wanted")
        self.table = table


class Gone(TowError):
    """The tow of a barge has left."""


class BadText(TowError):
    """A text is not that of a book and a plan."""
