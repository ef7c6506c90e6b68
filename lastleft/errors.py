"""The errors of the package, one for each kind of refusal."""


class LastError(ValueError):
    """What every refusal of the package is."""


class BadBoard(LastError):
    """What was handed in as a board is none."""


class BadWiping(LastError):
    """What was handed in as a wiping is none of the board."""


class BadLast(LastError):
    """What was handed in as the number to be left is no such number."""


class BadCount(LastError):
    """What was handed in as a count is none that is asked for."""


class NeverLast(LastError):
    """The number that was handed in can't be left."""
