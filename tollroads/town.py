"""A town: a net whose trips and tolls change one by one, and back again."""

from tollroads.errors import BadName, BadToll, BadTrips, NoName, NothingToUndo, Taken, TooMany
from tollroads.nets import check_index, check_net
from tollroads.ratios import ZERO
from tollroads.rests import is_toll, rest_costs, takings
from tollroads.trips import is_trip

LETTERS = "abcdefghijklmnopqrstuvwxyz"
MOST_TRIPS = 3


def check_name(name):
    if not (isinstance(name, str) and 1 <= len(name) <= 8 and all([letter in LETTERS for letter in name])):
        raise BadName("a name has 1 to 8 letters from a to z")


class Town:
    """A net with tolls and with trips that are kept by names."""

    def __init__(self, net):
        check_net(net)
        self.net = net
        self.trips = {}
        self.tolls = [ZERO for _ in net[1]]
        # What each change that has not been taken back did away with; a name without a trip had None.
        self.history = []

    def put(self, name, trip):
        """Store a trip in place of the one that has this name, if any."""
        check_name(name)
        if not is_trip(self.net, trip):
            raise BadTrips(None)
        others = [self.trips[other] for other in self.trips if other != name]
        if trip[:2] in [other[:2] for other in others]:
            raise Taken("another name has a trip with this start and goal")
        if len(others) == MOST_TRIPS:
            raise TooMany(MOST_TRIPS)
        self.history.append(("trip", name, self.trips.get(name)))
        self.trips[name] = trip

    def drop(self, name):
        """Take the trip of a name away and return it."""
        trip = self.get(name)
        self.history.append(("trip", name, trip))
        del self.trips[name]
        return trip

    def get(self, name):
        """Return the trip of a name."""
        check_name(name)
        if name not in self.trips:
            raise NoName("no trip has this name")
        return self.trips[name]

    def names(self):
        """Return the ascending tuple of all names."""
        return tuple(sorted(self.trips))

    def toll(self, index, size):
        """Set the toll of a road and return the former one."""
        check_index(self.tolls, index)
        if not is_toll(size):
            raise BadToll("the value is no toll")
        former = self.tolls[index]
        self.history.append(("toll", index, former))
        self.tolls[index] = size
        return former

    def undo(self):
        """Take back the last change that has not been taken back."""
        if len(self.history) == 0:
            raise NothingToUndo("nothing has been changed")
        word, place, former = self.history.pop()
        if word == "toll":
            self.tolls[place] = former
        elif former is None:
            del self.trips[place]
        else:
            self.trips[place] = former

    def stored(self):
        """Return the tuple of all trips, ascending by their names."""
        return tuple([self.trips[name] for name in self.names()])

    def costs(self):
        """Return the tuple of the costs at rest with the tolls, ascending by names."""
        trips = self.stored()
        if len(trips) == 0:
            return ()
        return rest_costs(self.net, trips, tuple(self.tolls))

    def income(self):
        """Return the sum of the flows times the tolls at rest."""
        trips = self.stored()
        if len(trips) == 0:
            return ZERO
        return takings(self.net, trips, tuple(self.tolls))
