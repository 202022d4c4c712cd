"""The errors of the package."""


class WayError(ValueError):
    """What all errors of the package are."""


class Unfit(WayError):
    """What was asked for does not fit what it was asked of."""


class BadHouse(WayError):
    """What was handed in is no house; error tells why."""

    def __init__(self, error):
        self.error = error


class BadRun(WayError):
    """The hand at this place of a run is barred when its turn comes."""

    def __init__(self, place):
        self.place = place


class BadText(WayError):
    """What was handed in is not the text of what is asked for, from this place or line on."""

    def __init__(self, place):
        self.place = place


class BadLog(WayError):
    """The edit at this place of a log cannot be done."""

    def __init__(self, place):
        self.place = place


class Refused(WayError):
    """An office refuses an edit; word tells why."""

    def __init__(self, word):
        self.word = word


class TooMany(WayError):
    """There is more to tell than this limit."""

    def __init__(self, limit):
        self.limit = limit


class NothingToUndo(WayError):
    """An office has no edit that could be undone."""
