"""Tolls with which a told routing is at rest, and papers that show how much they must take."""

from itertools import combinations

from tollroads.climbs import Climb
from tollroads.equilibria import costs_nothing_less
from tollroads.errors import TooMany
from tollroads.nets import check_few, is_way
from tollroads.ratios import ZERO, add, add_all, add_products, divide, on_one_bottom, subtract
from tollroads.roadflows import road_flows, road_times
from tollroads.shapes import are_amounts, is_ascending, is_ratio, is_row, is_whole
from tollroads.spreads import way_cost
from tollroads.tollpapers import is_least_pair, proves
from tollroads.trips import check_routing, demands_of, trip_tables

MOST_ROADS = 8


class Case:
    """A routing for trips, with the flows and times of all roads.

    A change of the routing is made of moves, triples (trip, source, target): a unit of the trip's demand changes from
    the way `source` to the way `target`. Since ways in use may lose any amount, but others none, moves from and to the
    first way in use make all changes.
    """

    def __init__(self, net, tables, routing):
        self.tables = tables
        self.routing = routing
        self.flows = road_flows(net, routing)
        self.times = road_times(net, self.flows)
        self.moves = []
        for trip, (table, part) in enumerate(zip(tables, routing)):
            self.moves.extend(moves_between(trip, table, [way for way, _ in part]))

    def climb_with(self, roads):
        """Return the search for the moves that save most time while the flows of these roads at most double.

        What a unit more on a road is worth there is the road's toll: by the duality of linear programs the savings
        have an end just if there are tolls on these roads, and then they are the least takings of such tolls.
        """
        bounds, _ = on_one_bottom(self.flows)
        costs, _ = on_one_bottom(self.times)
        factors = [[int(road in target) - int(road in source) for _, source, target in self.moves] for road in roads]
        gains = [way_cost(costs, source) - way_cost(costs, target) for _, source, target in self.moves]
        return Climb(factors, [bounds[road] for road in roads], gains)

    def tolls_on(self, roads):
        """Return tolls with which the routing is at rest, 0 but on these roads, None if there are none.

        The flows times the tolls have the least sum that they can have with tolls on these roads alone.
        """
        search = self.climb_with(roads)
        if not search.climb():
            return None
        _, bottom = on_one_bottom(self.times)
        tolls = [ZERO for _ in self.flows]
        for road, worth in zip(roads, search.worths()):
            tolls[road] = divide(worth, (bottom, 1))
        return tuple(tolls)

    def all_roads(self):
        return list(range(len(self.flows)))

    def least_pair(self):
        """Return the pair of the least takings and tolls that have them, None if there are none."""
        tolls = self.tolls_on(self.all_roads())
        if tolls is None:
            return None
        return (add_products(self.flows, tolls), tolls)

    def paper(self):
        """Return the pair (found, changes) of a paper."""
        search = self.climb_with(self.all_roads())
        if not search.climb():
            return (False, self.changes(search.direction()))
        _, bottom = on_one_bottom(self.flows)
        return (True, self.changes([divide(amount, (bottom, 1)) for amount in search.best_amounts()]))

    def changes(self, amounts):
        """Return the ascending tuple of the changes that these amounts of all moves make."""
        found = {}
        for (trip, source, target), amount in zip(self.moves, amounts):
            found[(trip, target)] = add(found.get((trip, target), ZERO), amount)
            found[(trip, source)] = subtract(found.get((trip, source), ZERO), amount)
        return tuple([(trip, way, found[(trip, way)]) for trip, way in sorted(found) if found[(trip, way)] != ZERO])

    def are_tolls(self, value):
        """Tell whether a value is a tuple of tolls with which the routing is at rest."""
        if not are_amounts(value, len(self.flows)):
            return False
        return costs_nothing_less([add(time, toll) for time, toll in zip(self.times, value)], self.tables, self.routing)

    def is_change(self, value):
        """Tell whether a value is a triple (trip, way, ratio) that a paper may contain."""
        if not (is_row(value, 3, 3) and is_whole(value[0], 0, len(self.tables) - 1) and is_ratio(value[2])):
            return False
        trip, way, size = value
        if not is_way(self.tables[trip], way) or size == ZERO:
            return False
        return size[0] > 0 or way in [used for used, _ in self.routing[trip]]

    def are_changes(self, value):
        """Tell whether a value is a tuple of changes in ascending order, those of each trip with the sum 0."""
        if not (isinstance(value, tuple) and all([self.is_change(change) for change in value])):
            return False
        if not is_ascending([change[:2] for change in value]):
            return False
        sums = [add_all([size for place, _, size in value if place == trip]) for trip in range(len(self.tables))]
        return all([whole == ZERO for whole in sums])

    def added(self, changes):
        """Return the list of what changes add to the flows of all roads."""
        return [add_all([size for _, way, size in changes if road in way]) for road in self.all_roads()]

    def is_paper(self, value):
        """Tell whether a value is a paper."""
        if not (is_row(value, 2, 2) and isinstance(value[0], bool) and self.are_changes(value[1])):
            return False
        found, changes = value
        added = self.added(changes)
        return proves(self, found, added, add_products(added, self.times))


def moves_between(trip, table, used):
    """Return the moves from and to the first of the ways in use."""
    first = used[0]
    others = [way for way in table if way != first]
    return [(trip, first, way) for way in others] + [(trip, way, first) for way in others if way in used]


def checked_case(net, trips, routing):
    """Return the case of a routing, or raise the error of the leftmost wrong argument."""
    tables = trip_tables(net, trips)
    check_routing(tables, demands_of(trips), routing)
    check_few(tables)
    return Case(net, tables, routing)


def least_tolls(net, trips, routing):
    """Return the pair of the least takings and tolls with which a routing is at rest, None if there are none."""
    return checked_case(net, trips, routing).least_pair()


def toll_paper(net, trips, routing):
    """Return a pair (found, changes) that shows that no tolls take less, or that there are none."""
    return checked_case(net, trips, routing).paper()


def shows_tolls(net, trips, routing, value):
    """Tell whether a value is a pair as `least_tolls` may return, or None where there are no tolls."""
    return is_least_pair(checked_case(net, trips, routing), value)


def shows_toll_paper(net, trips, routing, value):
    """Tell whether a value is a pair as `toll_paper` may return."""
    return checked_case(net, trips, routing).is_paper(value)


def fewest_tolls(net, trips, routing):
    """Return the pair of the fewest roads whose tolls suffice and such tolls, None if there are none."""
    case = checked_case(net, trips, routing)
    roads = case.all_roads()
    if len(roads) > MOST_ROADS:
        raise TooMany(MOST_ROADS)
    if case.least_pair() is None:
        return None
    for many in range(len(roads) + 1):
        for chosen in combinations(roads, many):
            tolls = case.tolls_on(chosen)
            if tolls is not None:
                return (chosen, tolls)
    return None
