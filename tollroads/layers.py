"""Rests of travellers to whom the roads cost unlike much."""

from tollroads.spreads import least_spread


def layered_spread(net, layers, tables, demands):
    """Return a routing in which no way costs less than a used one.

    The cost of a road is its time and, for the travellers of each table, the slope times their own flow plus the
    price that the layer at the table's place has for this road, a pair of an integer and a ratio from 0 on. Such a
    layer is a second net beside the roads, which these travellers alone use: each way of theirs goes over both.
    """
    many = len(net[1])
    lines = [(road[2], (road[3], 1)) for road in net[1]]
    doubled = []
    for layer, table in zip(layers, tables):
        shift = len(lines)
        doubled.append([(*way, *[shift + road for road in way]) for way in table])
        lines.extend(layer)
    spread = least_spread([slope for slope, _ in lines], [price for _, price in lines], doubled, demands)
    return tuple([single_part(many, part) for part in spread])


def single_part(many, part):
    """Return the pairs (way, amount) without the roads of the layers, those from index `many` on."""
    return tuple([(tuple([road for road in way if road < many]), amount) for way, amount in part])
