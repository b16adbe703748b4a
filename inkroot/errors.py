"""The refusals, one class for each."""


class InkError(ValueError):
    """Any refusal."""


class NoSheet(InkError):
    """The sheet is not there, or was not there yet at the moment."""


class NoMoment(InkError):
    """The moment is not there."""


class NoTie(InkError):
    """The tie is not there, or is there no more."""


class OutOfPlace(InkError):
    """The place is not there."""


class OutOfInk(InkError):
    """What is asked for lies outside the well."""


class NotYours(InkError):
    """The ink was poured by another hand."""


class TooMany(InkError):
    """There would be more sheets than may be."""


class Ring(InkError):
    """Windows would stand in a ring; way is the list of its sheets."""

    def __init__(self, way):
        # Without words of its own the error would keep the very list that was handed in.
        InkError.__init__(self, "the windows would stand in a ring")
        self.way = list(way)


class TooHeavy(InkError):
    """A sheet would weigh more than it may."""


class NoRow(InkError):
    """The text writes no row of items."""


class NoDeed(InkError):
    """The text writes no deed."""
