"""One error class for each kind of failure."""


class OddsError(ValueError):
    """The base of all errors that the package raises."""


class BadShare(OddsError):
    """No share: a bottom that is not above 0, a text that no share has, or a mean of nothing."""


class BadBook(OddsError):
    """A code book or a plain book is refused."""


class BadProgram(OddsError):
    """A program is refused."""


class BadPlan(OddsError):
    """A plan does not fit its hall, or a pick is not among those of its position."""


class Unfit(OddsError):
    """Arguments do not fit together, or are outside of what a function takes."""


class TooLarge(OddsError):
    """What is asked for would exceed its bound."""


class BadText(OddsError):
    """A text cannot be read; `line` is the number of the line, from 1."""

    def __init__(self, line):
        super().__init__(f"line {line} of the text does not fit")
        self.line = line


class BadMove(OddsError):
    """A move is refused; `index` is its index in its row, from 0."""

    def __init__(self, index):
        super().__init__(f"move {index} is not allowed when it comes")
        self.index = index


class BadEdit(OddsError):
    """An edit is refused; `index` is its index in its list, from 0."""

    def __init__(self, index):
        super().__init__(f"edit {index} is refused")
        self.index = index
