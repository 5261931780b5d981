"""The errors of the package."""


class HueError(ValueError):
    """Every error of the package stands directly under this one."""


class InvalidWeb(HueError):
    """Not the places and ties of a web."""


class InvalidPlace(HueError):
    """Not a place, or not places, of the kind that is asked for."""


class InvalidLists(HueError):
    """Not lists of a web, or not hues for them."""


class InvalidLengths(HueError):
    """Not lengths, or tokens, of a web."""


class InvalidShowing(HueError):
    """Not places that can be shown."""


class InvalidPainting(HueError):
    """Not places that can be painted."""


class InvalidTie(HueError):
    """Not a tie that can be put in or taken out."""


class Over(HueError):
    """The play is over."""


class NothingToUndo(HueError):
    """There is less to take back than is asked for."""


class InvalidText(HueError):
    """Not the text of a web or of lists."""


class InvalidCommand(HueError):
    """Not the form of a command."""


class NotReady(HueError):
    """There is no board yet."""
