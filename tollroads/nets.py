"""Nets of roads and the ways in them."""

from tollroads.errors import BadIndex, BadNet, BadNode, NoWay, TooMany
from tollroads.shapes import is_integer, is_row, is_whole

MOST_WAYS = 20


def is_node(size, value):
    return is_whole(value, 0, size - 1)


def is_line(value):
    """Tell whether a value is a pair (slope, base)."""
    return is_row(value, 2, 2) and is_whole(value[0], 0, 100) and is_whole(value[1], 0, 1000)


def is_joint(size, start, end):
    """Tell whether two values are unlike nodes."""
    return is_node(size, start) and is_node(size, end) and start != end


def is_road(size, value):
    return is_row(value, 4, 4) and is_joint(size, value[0], value[1]) and is_line(value[2:])


def check_net(net):
    if not (is_row(net, 2, 2) and is_whole(net[0], 2, 6) and is_row(net[1], 1, 10)):
        raise BadNet(None)
    for index, road in enumerate(net[1]):
        if not is_road(net[0], road):
            raise BadNet(index)


def check_joint(net, start, goal):
    if not is_joint(net[0], start, goal):
        raise BadNode("two unlike nodes are needed")


def check_index(rows, value):
    if not is_whole(value, 0, len(rows) - 1):
        raise BadIndex("nothing has this index")


def check_few(tables):
    """Raise TooMany if one of the tables has more ways than the bound allows."""
    for table in tables:
        if len(table) > MOST_WAYS:
            raise TooMany(MOST_WAYS)


def all_ways(roads, start, goal):
    """Return the ascending tuple of all ways, however many there are."""
    found = []
    begun = [((), (start,))]
    while begun:
        way, met = begun.pop()
        if met[-1] == goal:
            found.append(way)
        else:
            begun.extend(longer(roads, way, met))
    return tuple(sorted(found))


def longer(roads, way, met):
    """Return a begun way, which has met these nodes, with each road that may follow."""
    steps = []
    for index, road in enumerate(roads):
        if road[0] == met[-1] and road[1] not in met:
            steps.append(((*way, index), (*met, road[1])))
    return steps


def is_linked(net, start, goal):
    """Tell whether two values are unlike nodes with a way from the first to the second."""
    return is_joint(net[0], start, goal) and len(all_ways(net[1], start, goal)) > 0


def is_way(table, value):
    """Tell whether a value is a way of the table."""
    # (True,) equals (1,) in Python, so that the table alone would let it pass.
    return isinstance(value, tuple) and all([is_integer(road) for road in value]) and value in table


def roads_on(table):
    """Return the ascending list of the roads that lie on ways."""
    return sorted(set([road for way in table for road in way]))


def linked_ways(net, start, goal):
    """Check a net and two nodes; return all ways between them, of which there must be one."""
    check_net(net)
    check_joint(net, start, goal)
    table = all_ways(net[1], start, goal)
    if len(table) == 0:
        raise NoWay("there is no way between the nodes")
    return table


def ways(net, start, goal):
    """Return the ascending tuple of all ways from a node to another one."""
    check_net(net)
    check_joint(net, start, goal)
    table = all_ways(net[1], start, goal)
    check_few([table])
    return table
