"""All errors of the package (point 1)."""


class LogicError(ValueError):
    """The base class of all errors."""


class BadAnswer(LogicError):
    """An answer is asked, and the value is none."""


class BadName(LogicError):
    """The name of a told logic is asked, and the value is none."""


class BadPromise(LogicError):
    """The name of a promise is asked, and the value is none."""


class BadPromises(LogicError):
    """An ascending tuple of different promises is asked, and the value is none."""


class BadFormula(LogicError):
    """A formula is asked, and the value is none, or none that is allowed there."""


class BadRow(LogicError):
    """A row for a formula is asked, and the value is none."""


class NotText(LogicError):
    """A text is asked, and the value is no string."""


class InvalidText(LogicError):
    """A string is not the text of what is asked."""


class NotNow(LogicError):
    """A line asks for a formula before one was taken."""


class NothingToUndo(LogicError):
    """There is no taken formula to take back."""


class BadLogic(LogicError):
    """A logic is asked, and the value is none.

    index is None if the value is no tuple of eleven items, otherwise that of its first item that is no answer.
    """

    def __init__(self, index):
        super().__init__("a logic is a tuple of eleven answers")
        self.index = index
