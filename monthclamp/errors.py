"""The errors that the program raises."""


class DateError(ValueError):
    """Any of the errors below."""


class InvalidDate(DateError):
    """The value is a date that does not exist."""

    def __init__(self, value):
        self.value = value


class InvalidNumber(DateError):
    """The value is a number that is not allowed at its place."""

    def __init__(self, value):
        self.value = value


class NothingToUndo(DateError):
    """A plan has no step that could be removed."""

    def __init__(self, value):
        self.value = value


class Unreadable(DateError):
    """The value is a text that cannot be read as what was asked for."""

    def __init__(self, value):
        self.value = value
