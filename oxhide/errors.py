"""The refusals: each one stands straight under OxError."""


class OxError(ValueError):
    """Any refusal."""


class TooLong(OxError):
    """A walk, a word or a hedge is longer than may be."""


class BadRun(OxError):
    """The run of the number at is none."""

    def __init__(self, at):
        self.at = at


class BadWord(OxError):
    """The sign of a word at the place at is no step."""

    def __init__(self, at):
        self.at = at


class BadMove(OxError):
    """The move of the number at can't be done."""

    def __init__(self, at):
        self.at = at


class Unlike(OxError):
    """Two words come to unlike places or have unlike land."""


class BadNumber(OxError):
    """A number is beyond its bounds."""


class NoNumber(OxError):
    """No walk has this number."""


class NotHome(OxError):
    """A walk that should be a hedge does not come home."""


class NotMet(OxError):
    """Two roads come to unlike points."""


class BadName(OxError):
    """A text is no walker's name."""


class Taken(OxError):
    """A walker has this name already."""


class Full(OxError):
    """The office has as many walkers as it keeps."""


class NoWalker(OxError):
    """No walker has this name."""


class Tied(OxError):
    """Some log has a tie to the walker."""


class Ring(OxError):
    """A tie would make a walker hang on itself."""


class LogFull(OxError):
    """A log has as many entries as it takes."""


class NoEntry(OxError):
    """A log has no entry of this number."""


class NothingLeft(OxError):
    """There is nothing to take back or to do again."""


class BadText(OxError):
    """The line of the number at can't be read."""

    def __init__(self, at):
        self.at = at
