"""Rests with tolls: each traveller takes a way that costs least."""

from tollroads.equilibria import (
    costs_nothing_less,
    free_rest_costs,
    lowest_costs,
    lowest_ways,
    rest_routing,
    routing_total,
    toll_costs,
)
from tollroads.errors import BadTolls
from tollroads.nets import check_few, check_index
from tollroads.ratios import add_products
from tollroads.roadflows import road_flows
from tollroads.shapes import is_amount, is_row
from tollroads.trips import check_demand, demands_of, is_routing, trip_tables


def is_toll(value):
    return is_amount(value) and value[0] <= 10 ** 6 and value[1] <= 10 ** 4


def check_tolls(net, tolls):
    many = len(net[1])
    if not (is_row(tolls, many, many) and all([is_toll(toll) for toll in tolls])):
        raise BadTolls("one toll for each road is needed")


def checked_ways(net, trips, tolls):
    """Return the ways of all trips, or raise the error of the leftmost wrong argument."""
    tables = trip_tables(net, trips)
    check_tolls(net, tolls)
    check_few(tables)
    return tables


def rest(net, trips, tolls):
    """Return a routing at rest."""
    return rest_routing(net, checked_ways(net, trips, tolls), demands_of(trips), tolls)


def rest_costs(net, trips, tolls):
    """Return the tuple of the costs of the used ways of all trips at rest."""
    tables = checked_ways(net, trips, tolls)
    routing = rest_routing(net, tables, demands_of(trips), tolls)
    return tuple(lowest_costs(toll_costs(net, routing, tolls), tables))


def shows_rest(net, trips, tolls, value):
    """Tell whether a value is a routing at rest."""
    tables = checked_ways(net, trips, tolls)
    if not is_routing(tables, demands_of(trips), value):
        return False
    return costs_nothing_less(toll_costs(net, value, tolls), tables, value)


def cheapest_ways(net, trips, tolls):
    """Return the tuple with, for each trip, the ascending tuple of all ways with the least cost at rest."""
    tables = checked_ways(net, trips, tolls)
    routing = rest_routing(net, tables, demands_of(trips), tolls)
    return tuple(lowest_ways(toll_costs(net, routing, tolls), tables))


def rest_total(net, trips, tolls):
    """Return the total, times alone, of the routing that `rest` returns."""
    return routing_total(net, rest(net, trips, tolls))


def takings(net, trips, tolls):
    """Return the sum of the flows times the tolls of the routing that `rest` returns."""
    return add_products(road_flows(net, rest(net, trips, tolls)), tolls)


def more_of(net, trips, index, demand):
    """Return the tuple of the rest costs without tolls if the trip with this index has that demand instead."""
    tables = trip_tables(net, trips)
    check_index(trips, index)
    check_demand(demand)
    check_few(tables)
    demands = demands_of(trips)
    demands[index] = demand
    return tuple(free_rest_costs(net, tables, demands))
