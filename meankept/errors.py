"""The errors of the package."""


class KeepError(ValueError):
    """What each error of the package is."""


class BadChange(KeepError):
    """A value is no change of a list of rows."""


class BadDeeds(KeepError):
    """A value is no number of deeds."""


class BadHouse(KeepError):
    """A value is no house."""


class BadJournal(KeepError):
    """The acts of a journal fit no further than to their item at."""

    def __init__(self, at):
        super().__init__(f"the acts do not fit at {at}")
        self.at = at


class BadMove(KeepError):
    """A value is no move, or no chain of moves."""


class BadName(KeepError):
    """A value is no name of a kept row."""


class BadNumber(KeepError):
    """A value is no whole that may stand in its place."""


class BadPlace(KeepError):
    """A value is no place of its house or web."""


class BadPlaces(KeepError):
    """A value is no number of places."""


class BadRank(KeepError):
    """A web has a rank that does not fit."""


class BadRenaming(KeepError):
    """A value is no renaming."""


class BadRow(KeepError):
    """A value is no row."""


class BadRows(KeepError):
    """A value is no list of rows."""


class BadSpelling(KeepError):
    """A value is no spelling for its list of rows."""


class BadText(KeepError):
    """A text fits no further than to its character at."""

    def __init__(self, at):
        super().__init__(f"the text does not fit at {at}")
        self.at = at


class BadWeb(KeepError):
    """A value is no web."""


class NoName(KeepError):
    """No row is kept under a name."""


class NotFree(KeepError):
    """A web is not free in another one."""


class NotFull(KeepError):
    """A web is not full."""


class NotMade(KeepError):
    """A web does not make a row."""


class NotOver(KeepError):
    """A web is not over another one."""


class TooMany(KeepError):
    """There is more of something than the most that is allowed."""

    def __init__(self, most):
        super().__init__(f"there are more than {most}")
        self.most = most


class UnlikeMany(KeepError):
    """Two lists do not have equally many rows."""


class UnlikeWebs(KeepError):
    """Two webs are not of equally many deeds."""
