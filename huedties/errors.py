"""The refusals, each straight under HueError."""


class HueError(ValueError):
    """What stands above all refusals."""


class NoPlace(HueError):
    """A place that isn't there."""


class NoTie(HueError):
    """A tie that isn't there."""


class NoRow(HueError):
    """No row of two hues is there, or none that may be exchanged."""


class NoFan(HueError):
    """A fan was asked of a tie that has a hue."""


class TooFew(HueError):
    """Fewer hues than a hueing is promised for."""


class NoStep(HueError):
    """A step that isn't let by; place is its number."""

    def __init__(self, place):
        HueError.__init__(self, "this step is not let by")
        self.place = place


class NotTwoSides(HueError):
    """A web without two sides; ring is an odd ring of its ties."""

    def __init__(self, ring):
        HueError.__init__(self, "this web has no two sides")
        self.ring = list(ring)


class ShortList(HueError):
    """A list with too few hues; tie is the first that has one."""

    def __init__(self, tie):
        HueError.__init__(self, "the list of this tie is too short")
        self.tie = tie


class BadRow(HueError):
    """A row of a text that isn't written as it must be; line is its number."""

    def __init__(self, line):
        HueError.__init__(self, "this row is not written so")
        self.line = line
