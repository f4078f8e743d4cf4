"""What lentloft refuses: one class for each refusal, all of them under LoftError.

A refusal keeps what it is made of as it is, and makes no text of it: it may be made of anything.
"""


class LoftError(ValueError):
    """Any refusal."""


class Wrong(LoftError):
    """The argument at this place, counted from 0, isn't as told."""

    def __init__(self, at):
        self.at = at


class NoRoom(LoftError):
    """There would be more grains than there is room for."""


class TooFull(LoftError):
    """A file would hold too many places."""


class NoPlace(LoftError):
    """What begins at this place would go beyond the last place that may be."""

    def __init__(self, place):
        self.place = place


class NoGrain(LoftError):
    """No such grain is kept."""

    def __init__(self, grain):
        self.grain = grain


class NoFile(LoftError):
    """No file of this name is there."""

    def __init__(self, name):
        self.name = name


class NoLabel(LoftError):
    """No frozen state of this label is there."""

    def __init__(self, label):
        self.label = label


class There(LoftError):
    """A new name, or a new label, is there already."""

    def __init__(self, name):
        self.name = name


class TooMany(LoftError):
    """There would be more than this many."""

    def __init__(self, most):
        self.most = most


class Unlike(LoftError):
    """Two things are of two pools, or of two contents."""


class NoParcel(LoftError):
    """The row at this place, counted from 0, isn't right there."""

    def __init__(self, at):
        self.at = at


class NoText(LoftError):
    """What was handed in writes no deed."""


class NoLog(LoftError):
    """The row of a log at this place, counted from 0, can't stand or be done there."""

    def __init__(self, at):
        self.at = at


class NoRow(LoftError):
    """What was said is no row of the desk, or not now."""
