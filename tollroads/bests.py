"""Best routings, those with the least total, and what they are worth."""

from tollroads.equilibria import (
    best_routing,
    costs_nothing_less,
    free_rest_total,
    margin_costs,
    routing_total,
)
from tollroads.ratios import ZERO, divide, multiply
from tollroads.roadflows import road_flows
from tollroads.trips import bounded_trip_tables, demands_of, is_routing


def best(net, trips):
    """Return a routing with the least total."""
    return best_routing(net, bounded_trip_tables(net, trips), demands_of(trips))


def best_total(net, trips):
    """Return the least total."""
    return routing_total(net, best(net, trips))


def shows_best(net, trips, value):
    """Tell whether a value is a routing with the least total."""
    tables = bounded_trip_tables(net, trips)
    if not is_routing(tables, demands_of(trips), value):
        return False
    # The total is convex, so that it is least just where no way has a smaller margin than a used one.
    return costs_nothing_less(margin_costs(net, value), tables, value)


def selfish_price(net, trips):
    """Return the total at rest without tolls divided by the least total, None if that is 0."""
    tables = bounded_trip_tables(net, trips)
    least = best_total(net, trips)
    if least == ZERO:
        return None
    return divide(free_rest_total(net, tables, demands_of(trips)), least)


def margin_tolls(net, trips):
    """Return the tuple of the slopes times the flows of a routing with the least total."""
    found = road_flows(net, best(net, trips))
    return tuple([multiply((road[2], 1), flow) for road, flow in zip(net[1], found)])
