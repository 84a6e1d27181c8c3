"""Rests over given tables of ways, for arguments that are known to be right."""

from tollroads.ratios import ZERO, add, multiply, on_one_bottom, ratio
from tollroads.roadflows import flow_total, road_flows, road_times
from tollroads.spreads import least_spread, way_cost


def no_tolls(net):
    return [ZERO for _ in net[1]]


def rest_routing(net, tables, demands, tolls):
    """Return a routing at rest."""
    prices = [add((road[3], 1), toll) for road, toll in zip(net[1], tolls)]
    return least_spread([road[2] for road in net[1]], prices, tables, demands)


def best_routing(net, tables, demands):
    """Return a routing with the least total.

    It is a rest of the net with doubled slopes, since the total of a road rises by twice the slope times the flow
    plus the base.
    """
    return least_spread([2 * road[2] for road in net[1]], [(road[3], 1) for road in net[1]], tables, demands)


def margin_costs(net, routing):
    """Return by how much the total rises for each unit more, on each road."""
    found = road_flows(net, routing)
    return [add(multiply((2 * road[2], 1), flow), (road[3], 1)) for road, flow in zip(net[1], found)]


def toll_costs(net, routing, tolls):
    """Return the costs, times plus tolls, of all roads."""
    found = road_times(net, road_flows(net, routing))
    return [add(time, toll) for time, toll in zip(found, tolls)]


def costs_nothing_less(costs, tables, routing):
    """Tell whether no way costs less than one that the same part of the routing uses."""
    whole, _ = on_one_bottom(costs)
    for table, part in zip(tables, routing):
        lowest = lowest_cost(whole, table)
        if any([way_cost(whole, way) > lowest for way, _ in part]):
            return False
    return True


def lowest_cost(costs, table):
    return min([way_cost(costs, way) for way in table])


def lowest_costs(costs, tables):
    """Return, for each table, the least cost of its ways."""
    whole, bottom = on_one_bottom(costs)
    return [ratio(lowest_cost(whole, table), bottom) for table in tables]


def lowest_ways(costs, tables):
    """Return, for each table, the ascending tuple of its ways with the least cost."""
    whole, _ = on_one_bottom(costs)
    found = []
    for table in tables:
        lowest = lowest_cost(whole, table)
        found.append(tuple([way for way in table if way_cost(whole, way) == lowest]))
    return found


def routing_total(net, routing):
    return flow_total(net, road_flows(net, routing))


def free_rest_total(net, tables, demands):
    """Return the total at rest without tolls."""
    return routing_total(net, rest_routing(net, tables, demands, no_tolls(net)))


def free_rest_costs(net, tables, demands):
    """Return the list of the costs of the used ways at rest without tolls."""
    tolls = no_tolls(net)
    routing = rest_routing(net, tables, demands, tolls)
    return lowest_costs(toll_costs(net, routing, tolls), tables)
