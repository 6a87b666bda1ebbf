"""The errors of downpass (point 3)."""


class PassError(ValueError):
    """The base of all errors of downpass."""


class TextFault(PassError):
    """A text has a fault: where it is, counted from 1, and its reason (points 12 and 16)."""

    def __init__(self, line, column, reason):
        super().__init__(f"line {line}, column {column}: {reason}")
        self.line = line
        self.column = column
        self.reason = reason


class BadPlan(PassError):
    """A plan or a case does not have its form (points 15 and 17)."""


class BadRow(PassError):
    """Something is no row (point 25)."""


class BadPrice(PassError):
    """Prices cannot be used (point 26)."""
