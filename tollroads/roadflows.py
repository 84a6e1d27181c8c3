"""The flows, times and totals of routings that are known to be right."""

from tollroads.ratios import ZERO, add, add_all, add_products, multiply, ratio


def road_flows(net, routing):
    """Return the list of the flows of all roads."""
    found = [ZERO for _ in net[1]]
    for part in routing:
        for way, amount in part:
            for road in way:
                found[road] = add(found[road], amount)
    return found


def time_on(slope, base, flow):
    return add(multiply((slope, 1), flow), (base, 1))


def road_times(net, found):
    """Return the list of the times of all roads under flows."""
    return [time_on(road[2], road[3], flow) for road, flow in zip(net[1], found)]


def flow_total(net, found):
    """Return the sum of all flows times their times."""
    return add_products(found, road_times(net, found))


def flow_potential(net, found):
    """Return the sum of half the slopes times the squared flows plus the bases times the flows."""
    rising = add_all([multiply(ratio(road[2], 2), multiply(flow, flow)) for road, flow in zip(net[1], found)])
    return add(rising, add_products([(road[3], 1) for road in net[1]], found))
