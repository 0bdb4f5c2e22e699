"""The refusals of the program."""


class TurnError(ValueError):
    """Any refusal."""


class NoMark(TurnError):
    """Two places that are no mark."""


class NoCut(TurnError):
    """Cuts that don't rise, or a cut at a place where none may be."""
