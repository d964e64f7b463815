"""The refusals, each a class of its own straight under HueError."""


class HueError(ValueError):
    """Any refusal."""


class NoRing(HueError):
    """What is handed in for a ring is none."""


class NoHues(HueError):
    """What is handed in for hues, spots or known spots is none."""


class NoPlace(HueError):
    """What is handed in for a place is no place of the web."""


class NoArrows(HueError):
    """What is handed in for arrows is none."""


class NoMap(HueError):
    """What is handed in for a map is none."""


class NoPaper(HueError):
    """What is handed in for a paper or a round is none."""


class Apart(HueError):
    """The things handed in are sound, but do not go together."""


class NoRow(HueError):
    """What a desk is told is no row of its, or there is nothing to undo."""


class NoWeb(HueError):
    """What is handed in for a web is none, or makes none: at tells where."""

    def __init__(self, at):
        self.at = at


class NoText(HueError):
    """What is handed in for a text writes nothing: at tells where."""

    def __init__(self, at):
        self.at = at


class TooGreat(HueError):
    """There are many of something of which there may be most."""

    def __init__(self, many, most):
        self.many = many
        self.most = most
