"""The refusals: one base, and each other one straight under it."""


class RoundError(ValueError):
    """Any refusal of this program."""


class TooMany(RoundError):
    """Something goes beyond the bounds."""


class NoName(RoundError):
    """A name that isn't there."""


class NoNet(RoundError):
    """What is told is no net, or is that of none."""


class NoRound(RoundError):
    """A row that is no round."""


class NoStep(RoundError):
    """A step that can't be done."""


class NoTie(RoundError):
    """A tie that can't be laid, or isn't there."""


class NoMatch(RoundError):
    """Two nets whose ties are unlike."""


class NoText(RoundError):
    """A text that can't be read, or what is no text."""
