"""The refusals: what the program raises for what it cannot take."""


class DueError(ValueError):
    """Any refusal."""


class NoPlan(DueError):
    """No plan; at is the number of the first thing that cannot stand."""

    def __init__(self, at):
        self.at = at


class NoRow(DueError):
    """No row; at is the place of the first thing that cannot stand."""

    def __init__(self, at):
        self.at = at


class NoBook(DueError):
    """No book; at is the number of the first thing that is no rule."""

    def __init__(self, at):
        self.at = at


class NoFraction(DueError):
    """A division by nought."""


class NoTurns(DueError):
    """No such turn, or no such number of turns."""


class NoClaimant(DueError):
    """No such claimant."""


class NoBound(DueError):
    """No bound."""


class NoNumber(DueError):
    """No such number."""


class NoStep(DueError):
    """No step that could be taken back."""


class NoRunning(DueError):
    """No running."""


class NoSentence(DueError):
    """No sentence, or no promise."""


class TooMany(DueError):
    """More than is gone through."""


class NoText(DueError):
    """No text that is read."""


class NoDeed(DueError):
    """Nothing that the desk does."""
