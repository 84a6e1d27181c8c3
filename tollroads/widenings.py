"""Wider roads: what it is worth to lower slopes, and what else can change at rest."""

from tollroads.climbs import Climb
from tollroads.equilibria import free_rest_total, lowest_ways, no_tolls, rest_routing, toll_costs
from tollroads.errors import BadBudget, BadSlope, BadWay
from tollroads.nets import check_few, check_index, check_net, is_way, roads_on
from tollroads.ratios import ZERO, divide, less, on_one_bottom
from tollroads.roadflows import road_flows
from tollroads.shapes import is_whole
from tollroads.trips import demands_of, trip_tables

MOST_BUDGET = 4
# What it costs to leave a row unfilled by one: more than any row can be worth, which is at most the determinant of 12
# rows of zeros and ones, 3645.
MISSING = 10000


def lowered(net, steps):
    """Return the net with all slopes lowered by steps."""
    roads = [(start, end, slope - step, base) for (start, end, slope, base), step in zip(net[1], steps)]
    return (net[0], tuple(roads))


def widened(net, index, slope):
    """Return the net with a smaller slope of a road."""
    check_net(net)
    check_index(net[1], index)
    former = net[1][index][2]
    if not is_whole(slope, 0, former):
        raise BadSlope("a slope can only be lowered")
    return lowered(net, [former - slope if road == index else 0 for road in range(len(net[1]))])


def all_steps(slopes, budget):
    """Return the ascending list of all tuples of steps, none greater than its slope, with at most this sum."""
    found = [()]
    for slope in slopes:
        found = [(*steps, step) for steps in found for step in range(min(slope, budget - sum(steps)) + 1)]
    return found


def best_widening(net, trips, budget):
    """Return the pair of the least total at rest that can be reached by lowering slopes and the smallest such steps."""
    tables = trip_tables(net, trips)
    if not is_whole(budget, 0, MOST_BUDGET):
        raise BadBudget("a budget is an integer from 0 to 4")
    check_few(tables)
    # To lower the slope of a road that lies on no way changes nothing, and makes the tuple greater.
    useful = roads_on([way for table in tables for way in table])
    slopes = [road[2] if index in useful else 0 for index, road in enumerate(net[1])]
    found = None
    for steps in all_steps(slopes, budget):
        total = free_rest_total(lowered(net, steps), tables, demands_of(trips))
        if found is None or less(total, found[0]):
            found = (total, steps)
    return found


class Mixtures:
    """All routings at rest without tolls: they use the cheapest ways alone and agree on all roads with a slope."""

    def __init__(self, net, tables, demands):
        tolls = no_tolls(net)
        routing = rest_routing(net, tables, demands, tolls)
        cheapest = lowest_ways(toll_costs(net, routing, tolls), tables)
        self.columns = [(place, way) for place, table in enumerate(cheapest) for way in table]
        steep = [index for index, road in enumerate(net[1]) if road[2] > 0]
        self.factors = [[int(road in way) for _, way in self.columns] for road in steep]
        self.factors.extend([[int(place == trip) for place, _ in self.columns] for trip in range(len(demands))])
        flows = road_flows(net, routing)
        self.wholes, self.bottom = on_one_bottom([*[flows[road] for road in steep], *demands])

    def furthest(self, column, sign):
        """Return the greatest amount of one of the columns if the sign is 1, and the least one if it is -1.

        The search begins with no amounts at all, and fills all rows because it costs most to leave them unfilled.
        """
        gains = [MISSING * sum([row[place] for row in self.factors]) for place in range(len(self.columns))]
        at = self.columns.index(column)
        gains[at] += sign
        search = Climb(self.factors, self.wholes, gains)
        search.climb()
        return divide(search.best_amounts()[at], (self.bottom, 1))


def amount_range(net, trips, index, way):
    """Return the pair of the least and the greatest amount that routings at rest without tolls have on a way."""
    tables = trip_tables(net, trips)
    check_index(trips, index)
    if not is_way(tables[index], way):
        raise BadWay("the trip has no such way")
    check_few(tables)
    mixtures = Mixtures(net, tables, demands_of(trips))
    if (index, way) not in mixtures.columns:
        return (ZERO, ZERO)
    return (mixtures.furthest((index, way), -1), mixtures.furthest((index, way), 1))
