"""Limits of roads: travellers wait before full roads, just as long as keeps the others away."""

from tollroads.complements import complements
from tollroads.equilibria import costs_nothing_less, toll_costs
from tollroads.errors import BadLimits
from tollroads.nets import check_few
from tollroads.ratios import ZERO, less, on_one_bottom, ratio
from tollroads.roadflows import road_flows
from tollroads.shapes import are_amounts, is_demand, is_row
from tollroads.spreads import overlap, way_cost
from tollroads.trips import demands_of, is_routing, trip_tables


def is_limit(value):
    return value is None or is_demand(value)


def limited_tables(net, trips, limits):
    """Return the ways of all trips, or raise the error of the leftmost wrong argument."""
    tables = trip_tables(net, trips)
    many = len(net[1])
    if not (is_row(limits, many, many) and all([is_limit(limit) for limit in limits])):
        raise BadLimits("None or a limit for each road is needed")
    check_few(tables)
    return tables


def conditions(net, columns, full, places):
    """Return the matrix of the conditions of a rest.

    For amounts on the ways, waits on the roads that can be full and a cost for each trip it gives what the ways cost
    more than the trip, by how much the roads are not full, and by how much the amounts exceed the demands.
    """
    slopes = [road[2] for road in net[1]]
    rows = []
    for place, way in columns:
        shared = [overlap(slopes, way, other) for _, other in columns]
        rows.append([*shared, *[int(road in way) for road in full], *[-int(place == other) for other in places]])
    blank = [0 for _ in [*full, *places]]
    for road in full:
        rows.append([*[-int(road in other) for _, other in columns], *blank])
    for place in places:
        rows.append([*[int(place == other) for other, _ in columns], *blank])
    return rows


def limited_rest(net, trips, limits):
    """Return a pair (routing, waits) of a rest that keeps to the limits, None if no routing does."""
    tables = limited_tables(net, trips, limits)
    columns = [(place, way) for place, table in enumerate(tables) for way in table]
    full = [road for road, limit in enumerate(limits) if limit is not None]
    tops, bottom = on_one_bottom([*[limits[road] for road in full], *demands_of(trips)])
    bases = [road[3] for road in net[1]]
    # One more for each way changes no rest, but makes each trip cost something: so no amount exceeds the demand.
    shifts = [bottom * (way_cost(bases, way) + 1) for _, way in columns]
    shifts.extend(tops[:len(full)])
    shifts.extend([-top for top in tops[len(full):]])
    solved = complements(conditions(net, columns, full, list(range(len(trips)))), shifts)
    if solved is None:
        return None
    amounts, last = solved
    found = [ratio(amount, last * bottom) for amount in amounts]
    waits = [ZERO for _ in net[1]]
    for road, wait in zip(full, found[len(columns):]):
        waits[road] = wait
    return (routing_of(columns, found, len(trips)), tuple(waits))


def routing_of(columns, amounts, many):
    """Return the routing with these amounts on the ways of so many trips."""
    rows = [(place, way, amount) for (place, way), amount in zip(columns, amounts) if amount != ZERO]
    return tuple([tuple([(way, amount) for place, way, amount in rows if place == trip]) for trip in range(many)])


def keeps_to(flow, limit, wait):
    """Tell whether a road is not used beyond its limit, and does not let anybody wait if it is not full."""
    if wait != ZERO:
        return flow == limit
    return limit is None or not less(limit, flow)


def are_waits(net, limits, routing, value):
    """Tell whether a value is a tuple of waits that fit to the limits and to the flows of a routing."""
    if not are_amounts(value, len(net[1])):
        return False
    rows = list(zip(road_flows(net, routing), limits, value))
    return all([keeps_to(flow, limit, wait) for flow, limit, wait in rows])


def shows_limited(net, trips, limits, value):
    """Tell whether a value is a pair as `limited_rest` may return, or None where there is none."""
    tables = limited_tables(net, trips, limits)
    if value is None:
        return limited_rest(net, trips, limits) is None
    if not (is_row(value, 2, 2) and is_routing(tables, demands_of(trips), value[0])):
        return False
    routing, waits = value
    if not are_waits(net, limits, routing, waits):
        return False
    return costs_nothing_less(toll_costs(net, routing, waits), tables, routing)
