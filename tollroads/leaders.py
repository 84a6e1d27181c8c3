"""A leader who routes a share of a demand over lanes ahead of all others."""

from tollroads.errors import BadShare
from tollroads.lanes import (
    are_flows,
    bases_of,
    check_lanes,
    lane_spread,
    lane_times,
    only_least_used,
    slopes_of,
)
from tollroads.ratios import ONE, ZERO, add, add_products, less, multiply, on_one_bottom, subtract
from tollroads.shapes import is_amount, is_ratio, is_row
from tollroads.trips import check_demand


def is_share(value):
    return is_amount(value) and value[0] <= value[1] <= 100


def check_plan(lanes, demand, share):
    check_lanes(lanes)
    check_demand(demand)
    if not is_share(share):
        raise BadShare("the value is no share")


def doubled(lanes):
    """Return the lanes whose times are the margins of the given ones: at rest on them the total is least."""
    return [(2 * slope, base) for slope, base in lanes]


def lanes_by_time(lanes, flows):
    """Return the indexes of the lanes in the order of falling times, of equal ones the greater index first."""
    whole, _ = on_one_bottom(lane_times(lanes, flows))
    order = sorted([(time, index) for index, time in enumerate(whole)], reverse=True)
    return [index for _, index in order]


def led_flows(lanes, flows, amount):
    """Return the tuple of the leader's flows, with the sum `amount`, for flows with the least total."""
    led = [ZERO for _ in lanes]
    for index in lanes_by_time(lanes, flows):
        taken = flows[index]
        if less(amount, taken):
            taken = amount
        led[index] = taken
        amount = subtract(amount, taken)
    return tuple(led)


def together(led, others):
    """Return the flows of the leader and the others together."""
    return [add(one, other) for one, other in zip(led, others)]


def plan_total(lanes, led, others):
    flows = together(led, others)
    return add_products(flows, lane_times(lanes, flows))


def leader_plan(lanes, demand, share):
    """Return the quadruple (best, led, rest, total)."""
    check_plan(lanes, demand, share)
    twice = doubled(lanes)
    best = lane_spread(slopes_of(twice), bases_of(twice), demand)
    amount = multiply(demand, share)
    led = led_flows(lanes, best, amount)
    others = lane_spread(slopes_of(lanes), lane_times(lanes, led), multiply(demand, subtract(ONE, share)))
    return (best, led, others, plan_total(lanes, led, others))


def shows_plan(lanes, demand, share, value):
    """Tell whether a value is a quadruple as `leader_plan` may return."""
    check_plan(lanes, demand, share)
    if not is_row(value, 4, 4):
        return False
    best, led, others, total = value
    amount = multiply(demand, share)
    if not (are_flows(lanes, demand, best) and only_least_used(lane_times(doubled(lanes), best), best)):
        return False
    # The leader's flows are told by the best ones; the shape is asked first since True equals 1 in Python.
    if not (are_flows(lanes, amount, led) and led == led_flows(lanes, best, amount)):
        return False
    if not are_flows(lanes, multiply(demand, subtract(ONE, share)), others):
        return False
    if not only_least_used(lane_times(lanes, together(led, others)), others):
        return False
    return is_ratio(total) and total == plan_total(lanes, led, others)
