"""Kinds of travellers to whom time is worth unlike much."""

from tollroads.equilibria import costs_nothing_less
from tollroads.errors import BadKinds
from tollroads.layers import layered_spread
from tollroads.nets import check_few, check_net
from tollroads.ratios import add, divide, multiply
from tollroads.rests import check_tolls
from tollroads.roadflows import road_flows, road_times
from tollroads.shapes import is_row, is_whole
from tollroads.trips import demands_of, first_wrong, is_routing, is_trip, tables_of


def is_kind(net, value):
    """Tell whether a value is a quadruple (start, goal, demand, value) with a way."""
    return is_row(value, 4, 4) and is_trip(net, value[:3]) and is_whole(value[3], 1, 100)


def kind_tables(net, kinds, tolls):
    """Return the ways of all kinds, or raise the error of the leftmost wrong argument."""
    check_net(net)
    wrong, index = first_wrong(net, kinds, is_kind, True)
    if wrong:
        raise BadKinds(index)
    check_tolls(net, tolls)
    tables = tables_of(net, kinds)
    check_few(tables)
    return tables


def kinds_rest(net, kinds, tolls):
    """Return a routing, one part for each kind, in which nobody has a way that is worth more.

    To a kind a toll is as bad as the time that the toll is worth to it.
    """
    tables = kind_tables(net, kinds, tolls)
    layers = [[(0, divide(toll, (kind[3], 1))) for toll in tolls] for kind in kinds]
    return layered_spread(net, layers, tables, demands_of(kinds))


def kind_costs(times, tolls, worth):
    """Return the costs of all roads to travellers to whom a unit of time is worth so much."""
    return [add(multiply((worth, 1), time), toll) for time, toll in zip(times, tolls)]


def shows_kinds(net, kinds, tolls, value):
    """Tell whether a value is a routing as `kinds_rest` may return."""
    tables = kind_tables(net, kinds, tolls)
    if not is_routing(tables, demands_of(kinds), value):
        return False
    times = road_times(net, road_flows(net, value))
    rows = list(zip(kinds, tables, value))
    return all([costs_nothing_less(kind_costs(times, tolls, kind[3]), [table], (part,)) for kind, table, part in rows])
