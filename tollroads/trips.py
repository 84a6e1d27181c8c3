"""Trips, their ways, and what is and is not a routing for them."""

from tollroads.errors import BadDemand, BadRouting, BadTrips
from tollroads.nets import all_ways, check_few, check_net, is_linked, is_way
from tollroads.ratios import add_all
from tollroads.shapes import is_amount, is_ascending, is_demand, is_row


def is_trip(net, value):
    """Tell whether a value is a triple (start, goal, demand) with a way."""
    return is_row(value, 3, 3) and is_demand(value[2]) and is_linked(net, value[0], value[1])


def first_wrong(net, rows, is_right, twice):
    """Return (wrong, index): whether a value is not a tuple of 1 to 3 right rows, and which row is the first wrong one.

    The index is None if the value is no such tuple at all. Unless they may stand twice, start and goal of an earlier
    row are wrong.
    """
    if not is_row(rows, 1, 3):
        return True, None
    for index, row in enumerate(rows):
        if not is_right(net, row):
            return True, index
        if not twice and row[:2] in [earlier[:2] for earlier in rows[:index]]:
            return True, index
    return False, None


def check_trips(net, trips):
    wrong, index = first_wrong(net, trips, is_trip, False)
    if wrong:
        raise BadTrips(index)


def check_demand(demand):
    if not is_demand(demand):
        raise BadDemand("the value is no demand")


def trip_tables(net, trips):
    """Check a net and trips; return the list with, for each trip, the ascending tuple of all its ways.

    The bound on their number is left to the caller, since TooMany comes after the errors of all other arguments.
    """
    check_net(net)
    check_trips(net, trips)
    return tables_of(net, trips)


def tables_of(net, rows):
    """Return the list of the ways of rows that begin with a start and a goal."""
    return [all_ways(net[1], row[0], row[1]) for row in rows]


def bounded_trip_tables(net, trips):
    """Return the same tables where no other argument is left to check."""
    tables = trip_tables(net, trips)
    check_few(tables)
    return tables


def demands_of(trips):
    return [trip[2] for trip in trips]


def is_used_way(table, value):
    """Tell whether a value is a pair of a way in the table and a positive ratio."""
    return is_row(value, 2, 2) and is_way(table, value[0]) and is_amount(value[1]) and value[1][0] > 0


def is_part(table, demand, value):
    """Tell whether a value is what a routing has for one trip."""
    if not (isinstance(value, tuple) and all([is_used_way(table, pair) for pair in value])):
        return False
    return is_ascending([way for way, _ in value]) and add_all([amount for _, amount in value]) == demand


def is_routing(tables, demands, value):
    """Tell whether a value is a routing for demands over tables of ways."""
    if not is_row(value, len(tables), len(tables)):
        return False
    return all([is_part(table, demand, part) for table, demand, part in zip(tables, demands, value)])


def check_routing(tables, demands, routing):
    if not is_routing(tables, demands, routing):
        raise BadRouting("the value is no routing for the trips")
