"""The refusals: each stands straight under LeanError."""


class LeanError(ValueError):
    """What the program refuses."""


class NoText(LeanError):
    """A text that falls into no words, or is none of the tongue, by the place at which it goes wrong."""

    def __init__(self, at=0):
        self.at = at


class NoTree(LeanError):
    """A thing that is no tree, by the path of the fault and its kind."""

    def __init__(self, path=(), why=""):
        self.path = path
        self.why = why


class NoPath(LeanError):
    """A path that leads to nothing."""


class NoNaming(LeanError):
    """A naming that can't be, by the two that clash."""

    def __init__(self, one=None, other=None):
        self.one = one
        self.other = other


class NoLetters(LeanError):
    """Letters that no names can be made of."""


class NoCount(LeanError):
    """A count beyond its bounds."""


class NoTurning(LeanError):
    """A turning that may not be made."""


class NoMap(LeanError):
    """A place from which no map leads."""


class NoLine(LeanError):
    """A line that the desk can't answer."""


class TooMany(LeanError):
    """More than may be looked at."""
