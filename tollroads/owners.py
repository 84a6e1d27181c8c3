"""Owners of many travellers: each one routes them so that they take least time together."""

from tollroads.equilibria import costs_nothing_less
from tollroads.errors import BadOwners
from tollroads.layers import layered_spread
from tollroads.nets import check_few, check_net
from tollroads.ratios import ZERO, add, add_products, multiply
from tollroads.roadflows import road_flows, road_times
from tollroads.trips import demands_of, first_wrong, is_routing, is_trip, tables_of


def owner_tables(net, owners):
    """Return the ways of all owners, or raise the error of the leftmost wrong argument."""
    check_net(net)
    wrong, index = first_wrong(net, owners, is_trip, True)
    if wrong:
        raise BadOwners(index)
    tables = tables_of(net, owners)
    check_few(tables)
    return tables


def shared_rest(net, owners):
    """Return a routing, one part for each owner, in which no owner can do better alone.

    An owner's time falls and rises with the own flow as if each road had its slope once more for the owner alone.
    """
    tables = owner_tables(net, owners)
    layer = [(road[2], ZERO) for road in net[1]]
    return layered_spread(net, [layer for _ in owners], tables, demands_of(owners))


def owner_costs(net, times, part):
    """Return what a unit more on each road costs the owner of a part of a routing, whose times are given."""
    own = road_flows(net, (part,))
    return [add(time, multiply((road[2], 1), flow)) for road, time, flow in zip(net[1], times, own)]


def shows_shared(net, owners, value):
    """Tell whether a value is a routing in which no owner can do better alone."""
    tables = owner_tables(net, owners)
    if not is_routing(tables, demands_of(owners), value):
        return False
    times = road_times(net, road_flows(net, value))
    parts = list(zip(tables, value))
    return all([costs_nothing_less(owner_costs(net, times, part), [table], (part,)) for table, part in parts])


def owner_totals(net, owners):
    """Return the tuple of the sums of the times of all owners' travellers in the routing of `shared_rest`."""
    routing = shared_rest(net, owners)
    times = road_times(net, road_flows(net, routing))
    return tuple([add_products(road_flows(net, (part,)), times) for part in routing])
