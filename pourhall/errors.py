"""The refusals of the program, each a class of its own under PourError."""


class PourError(ValueError):
    """Any refusal."""


class NoCell(PourError):
    """A thing that is no cell stands where one is asked for; place is its number, from 0."""

    def __init__(self, place):
        PourError.__init__(self, f"no cell stands at place {place}")
        self.place = place


class TooMany(PourError):
    """More unlike cells than a body may have."""


class NoText(PourError):
    """What is to be read is no text of a body."""


class Undercut(PourError):
    """A line of a body has a gap: one beneath it, gap itself, other above it."""

    def __init__(self, one, gap, other):
        PourError.__init__(self, f"between {one} and {other} lies the gap {gap}")
        self.one = one
        self.gap = gap
        self.other = other


class NoRow(PourError):
    """What the desk is told is no row."""


class NoName(PourError):
    """A word is no name, or nothing is kept by it."""
