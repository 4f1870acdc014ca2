"""The refusals of the program."""


class LeafError(ValueError):
    """What all refusals stand under."""


class NoWeb(LeafError):
    """What was handed in is no web."""


class TooGreat(LeafError):
    """The web is too great to be answered exactly."""


class NoSet(LeafError):
    """No busy set keeps the state."""


class Taken(LeafError):
    """The tie is in the web already."""


class TooMany(LeafError):
    """The web has as many ties as it may have."""


class NoTie(LeafError):
    """The tie is not in the web."""


class Apart(LeafError):
    """The web would not be in one piece."""


class NoText(LeafError):
    """What was handed in is no text of the asked form."""
