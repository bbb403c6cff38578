"""The errors that the program raises."""


class OrderError(ValueError):
    """The base class of all errors of the program."""


class HistoryError(OrderError):
    """A fault of a history, at an event or, with the place -1, at none."""

    def __init__(self, place, what):
        super().__init__(f"{what} (place {place})")
        self.place = place
        self.what = what


class LineError(OrderError):
    """A fault in the text of a history, at a line counted from 1."""

    def __init__(self, line, what):
        super().__init__(f"{what} (line {line})")
        self.line = line
        self.what = what


class ScheduleError(OrderError):
    """A fault of a schedule, at a word counted from 0."""

    def __init__(self, place, what):
        super().__init__(f"{what} (place {place})")
        self.place = place
        self.what = what


class LockError(OrderError):
    """A call that a lock table refuses."""

    def __init__(self, what):
        super().__init__(f"refused: {what}")
        self.what = what


class ManagerError(OrderError):
    """A call that a manager refuses."""

    def __init__(self, what):
        super().__init__(f"refused: {what}")
        self.what = what
