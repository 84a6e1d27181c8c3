"""Roads that harm: what the travellers pay if roads are closed."""

from itertools import combinations

from tollroads.equilibria import free_rest_costs, free_rest_total
from tollroads.errors import TooMany
from tollroads.nets import check_few, linked_ways, roads_on
from tollroads.ratios import less
from tollroads.trips import bounded_trip_tables, check_demand, demands_of

MOST_ROADS = 8


def checked_table(net, start, goal, demand):
    """Return all ways between two nodes, or raise the error of the leftmost wrong argument."""
    table = linked_ways(net, start, goal)
    check_demand(demand)
    check_few([table])
    return table


def without(table, road):
    """Return the ways that do not use a road."""
    return tuple([way for way in table if road not in way])


def within(table, roads):
    """Return the ways that use these roads alone."""
    return tuple([way for way in table if all([road in roads for road in way])])


def cost_on(net, table, demand):
    """Return the cost at rest, without tolls, if there are only these ways."""
    return free_rest_costs(net, [table], [demand])[0]


def harmful_roads(net, start, goal, demand):
    """Return the ascending tuple of the roads without which a way is left and the cost at rest is smaller."""
    table = checked_table(net, start, goal, demand)
    cost = cost_on(net, table, demand)
    found = []
    for road in roads_on(table):
        left = without(table, road)
        if len(left) > 0 and less(cost_on(net, left, demand), cost):
            found.append(road)
    return tuple(found)


def best_part(net, start, goal, demand):
    """Return the pair of the least cost at rest of all parts of the net and the roads of the first such part."""
    table = checked_table(net, start, goal, demand)
    roads = roads_on(table)
    if len(roads) > MOST_ROADS:
        raise TooMany(MOST_ROADS)
    found = None
    for many in range(1, len(roads) + 1):
        for kept in combinations(roads, many):
            left = within(table, kept)
            # A part with a road on none of its ways costs as much as the smaller one without it, met before.
            if roads_on(left) == list(kept):
                cost = cost_on(net, left, demand)
                if found is None or less(cost, found[0]):
                    found = (cost, kept)
    return found


def closures(net, trips):
    """Return the tuple with, for each road, the total at rest without it, None if a trip has no way then."""
    tables = bounded_trip_tables(net, trips)
    found = []
    for road in range(len(net[1])):
        left = [without(table, road) for table in tables]
        if all([len(table) > 0 for table in left]):
            found.append(free_rest_total(net, left, demands_of(trips)))
        else:
            found.append(None)
    return tuple(found)
