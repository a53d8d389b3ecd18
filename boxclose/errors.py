"""The refusals: each door raises the one class that the document names for it.

No message shows what was handed in: it may be a number too long to be written out.
"""


class CloseError(ValueError):
    """What every refusal of this package is."""


class BadNet(CloseError):
    """What was handed in is no net."""


class BadDrawn(CloseError):
    """What was handed in is no list of drawn sides of the net."""


class BadSide(CloseError):
    """What was handed in is no free side of the state."""


class BadPlay(CloseError):
    """What was handed in is no play from the state on."""


class BadNumber(CloseError):
    """What was handed in is no number, or none of those that there are."""


class BadFloor(CloseError):
    """What was handed in are no rows and columns of a floor."""


class BadEnding(CloseError):
    """What was handed in is no ending, or no chain or ring."""


class BadOrder(CloseError):
    """What was handed in is no order of all boxes."""


class TooMany(CloseError):
    """What would come out has more boxes or sides than a net may have."""
