"""The errors of the package; each keeps the one value that it is about."""


class DeedError(ValueError):
    """What every other error of the package is, too."""

    def __init__(self, value):
        self.value = value


class InvalidName(DeedError):
    """A name that may not stand where it stands."""


class InvalidArrow(DeedError):
    """An arrow that the diagram cannot have."""


class InvalidPair(DeedError):
    """A hidden pair that the diagram cannot have."""


class InvalidNumber(DeedError):
    """A number that may not stand where it stands, or of which there are too many or too few."""


class InvalidWeights(DeedError):
    """The place of weights that are too small."""


class InvalidDeed(DeedError):
    """A name that stands in two lists of which it may be in one only."""


class NotTold(DeedError):
    """The group, and the set at which it is stuck, of shares that are not told."""


class NothingToUndo(DeedError):
    """There is no call to take back."""


class TooMany(DeedError):
    """The number of arrows and pairs that there would be."""


class Unreadable(DeedError):
    """A text that no diagram has."""
