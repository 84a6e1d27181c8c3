"""What a given routing does to the roads: flows, times, total and potential."""

from tollroads.roadflows import flow_potential, flow_total, road_flows, road_times
from tollroads.nets import check_few
from tollroads.trips import check_routing, demands_of, trip_tables


def checked_flows(net, trips, routing):
    """Return the list of the flows of all roads, or raise the error of the leftmost wrong argument."""
    tables = trip_tables(net, trips)
    check_routing(tables, demands_of(trips), routing)
    check_few(tables)
    return road_flows(net, routing)


def flows(net, trips, routing):
    """Return the tuple of the flows of all roads."""
    return tuple(checked_flows(net, trips, routing))


def times(net, trips, routing):
    """Return the tuple of the times of all roads."""
    return tuple(road_times(net, checked_flows(net, trips, routing)))


def total(net, trips, routing):
    """Return the sum of all flows times their times."""
    return flow_total(net, checked_flows(net, trips, routing))


def potential(net, trips, routing):
    """Return the potential of a routing, the least one of which is that of a rest."""
    return flow_potential(net, checked_flows(net, trips, routing))
