"""Wishes: the cheaper the cheapest way, the more travellers set out."""

from tollroads.equilibria import costs_nothing_less, lowest_costs
from tollroads.errors import BadWishes
from tollroads.nets import check_few, check_net, is_linked
from tollroads.ratios import ZERO, add_all, multiply, on_one_bottom, subtract
from tollroads.roadflows import road_flows, road_times
from tollroads.shapes import are_amounts, is_row, is_whole
from tollroads.spreads import least_spread
from tollroads.trips import first_wrong, is_routing, tables_of


def is_wish(net, value):
    """Tell whether a value is a quadruple (start, goal, most, slope) with a way."""
    if not (is_row(value, 4, 4) and is_linked(net, value[0], value[1])):
        return False
    return is_whole(value[2], 1, 1000) and is_whole(value[3], 1, 100)


def wish_tables(net, wishes):
    """Return the ways of all wishes, or raise the error of the leftmost wrong argument."""
    check_net(net)
    wrong, index = first_wrong(net, wishes, is_wish, False)
    if wrong:
        raise BadWishes(index)
    tables = tables_of(net, wishes)
    check_few(tables)
    return tables


def wished_rest(net, wishes):
    """Return the pair of the demands and a routing for them, each demand that of the cheapest way's cost.

    Those who stay at home count as if they all took one more road beside the ways, on which a traveller's time is
    their number divided by the slope of the wish: then the rest of all is what is wished.
    """
    tables = wish_tables(net, wishes)
    many = len(net[1])
    shares, scale = on_one_bottom([(1, wish[3]) for wish in wishes])
    slopes = [scale * road[2] for road in net[1]] + shares
    prices = [(scale * road[3], 1) for road in net[1]] + [ZERO for _ in wishes]
    longer = [[*table, (many + index,)] for index, table in enumerate(tables)]
    spread = least_spread(slopes, prices, longer, [(wish[2], 1) for wish in wishes])
    routing = [tuple([(way, amount) for way, amount in part if way[0] < many]) for part in spread]
    demands = [add_all([amount for _, amount in part]) for part in routing]
    return (tuple(demands), tuple(routing))


def wished_demand(wish, cost):
    """Return how many set out if the cheapest way costs so much."""
    left = subtract((wish[2], 1), multiply((wish[3], 1), cost))
    if left[0] < 0:
        return ZERO
    return left


def shows_wished(net, wishes, value):
    """Tell whether a value is a pair as `wished_rest` may return."""
    tables = wish_tables(net, wishes)
    if not (is_row(value, 2, 2) and are_amounts(value[0], len(wishes))):
        return False
    demands, routing = value
    if not is_routing(tables, demands, routing):
        return False
    times = road_times(net, road_flows(net, routing))
    wanted = [wished_demand(wish, cost) for wish, cost in zip(wishes, lowest_costs(times, tables))]
    return wanted == list(demands) and costs_nothing_less(times, tables, routing)
