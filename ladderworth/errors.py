"""The refusals, one class for each."""


class LadderError(ValueError):
    pass


class NoNumber(LadderError):
    pass


class NoStretch(LadderError):
    pass


class NoGame(LadderError):
    pass


class NoBook(LadderError):
    pass


class NoPlayer(LadderError):
    pass


class NoWorth(LadderError):
    pass


class NoFit(LadderError):
    def __init__(self, verdict):
        LadderError.__init__(self, "no worths fit, or they hang on parts that never met")
        # A verdict holds lists, which whoever made it may change later.
        self.verdict = copied(verdict)


class NoTable(LadderError):
    pass


class NoTree(LadderError):
    pass


class NoRow(LadderError):
    pass


def copied(thing):
    if isinstance(thing, list):
        return [copied(part) for part in thing]
    if isinstance(thing, tuple):
        return tuple([copied(part) for part in thing])
    return thing
