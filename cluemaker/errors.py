"""The refusals, one class for each."""


class ClueError(ValueError):
    pass


class NoFloor(ClueError):
    pass


class NoFilling(ClueError):
    pass


class NoRule(ClueError):
    pass


class NoPuzzle(ClueError):
    pass


class TooMany(ClueError):
    pass


class NotOne(ClueError):
    pass


class NoMove(ClueError):
    pass


class NoText(ClueError):
    pass


class NoName(ClueError):
    pass


class NoRow(ClueError):
    pass


class BadThought(ClueError):
    def __init__(self, at):
        ClueError.__init__(self, "a thought of the book is refused")
        # a copy, so that a list that goes on changing elsewhere leaves this error as it is
        self.at = list(at)
