"""The errors of the package."""


class RoadError(ValueError):
    """The base class of all errors of the package."""


class BadNet(RoadError):
    """A value that is not a net."""

    def __init__(self, index):
        self.index = index


class BadNode(RoadError):
    """A value that is not a node, or two equal nodes."""


class BadTrips(RoadError):
    """A value that is not trips."""

    def __init__(self, index):
        self.index = index


class BadRouting(RoadError):
    """A value that is not a routing."""


class BadTolls(RoadError):
    """A value that is not tolls."""


class BadIndex(RoadError):
    """A value that is not an index."""


class BadDemand(RoadError):
    """A value that is not a demand."""


class BadLanes(RoadError):
    """A value that is not lanes."""

    def __init__(self, index):
        self.index = index


class BadShare(RoadError):
    """A value that is not a share."""


class NoWay(RoadError):
    """Two nodes without a way between them."""


class BadGame(RoadError):
    """A value that is not a game."""

    def __init__(self, index):
        self.index = index


class BadState(RoadError):
    """A value that is not a state."""


class BadWeights(RoadError):
    """A value that is not weights."""


class BadOwners(RoadError):
    """A value that is not owners."""

    def __init__(self, index):
        self.index = index


class BadLimits(RoadError):
    """A value that is not limits."""


class BadWishes(RoadError):
    """A value that is not wishes."""

    def __init__(self, index):
        self.index = index


class BadKinds(RoadError):
    """A value that is not kinds."""

    def __init__(self, index):
        self.index = index


class BadBottleneck(RoadError):
    """A value that is not a bottleneck."""


class BadTime(RoadError):
    """A value that is not a time."""


class BadSlots(RoadError):
    """A value that is not wished slots."""


class BadCapacity(RoadError):
    """A value that is not a capacity."""


class BadCost(RoadError):
    """A value that is not a cost."""


class BadBuilding(RoadError):
    """A value that is not a building."""

    def __init__(self, index):
        self.index = index


class BadSlope(RoadError):
    """A value that is not a slope."""


class BadBudget(RoadError):
    """A value that is not a budget."""


class BadWay(RoadError):
    """A value that is not a way."""


class BadName(RoadError):
    """A value that is not a name."""


class Taken(RoadError):
    """A start and a goal that another name has."""


class NoName(RoadError):
    """A name without a trip."""


class BadToll(RoadError):
    """A value that is not a toll."""


class NothingToUndo(RoadError):
    """No change that could be taken back."""


class NotText(RoadError):
    """A value that is not a string."""


class InvalidText(RoadError):
    """A text with a character that is not allowed."""

    def __init__(self, place):
        self.place = place


class TooMany(RoadError):
    """More things than a bound allows."""

    def __init__(self, most):
        self.most = most
