"""What the program refuses, one class for each refusal."""


class TrailError(ValueError):
    """Any refusal."""


class NoNumber(TrailError):
    """No number of deeds, or a place that no deed has."""


class NoLoad(TrailError):
    """No number of a load that the book makes."""


class NoPartner(TrailError):
    """No partner of the train."""


class NoPrices(TrailError):
    """No prices of the train's kinds."""


class NoThrow(TrailError):
    """No place of a throw."""


class NoSale(TrailError):
    """No place of a sale."""


class NoOrder(TrailError):
    """No order of unlike partners."""


class NoTrain(TrailError):
    """No train."""


class NoFirst(TrailError):
    """No loads that a book begins with."""


class NoDeed(TrailError):
    """No deed of the train."""


class NoNext(TrailError):
    """A book without deeds has no next book."""


class NothingDone(TrailError):
    """Nothing is there to be undone."""


class TooMany(TrailError):
    """More loads, deeds or throws than a book may have."""


class NoText(TrailError):
    """No text that writes a book."""


class NoRow(TrailError):
    """No row that a desk knows."""


class NotDone(TrailError):
    """A deed that can't be done; at is its place in the book."""

    def __init__(self, at):
        TrailError.__init__(self, f"the deed at place {at} can't be done")
        self.at = at
