"""Roads side by side: rests on lanes that join the same two places."""

from tollroads.errors import BadLanes
from tollroads.nets import is_line
from tollroads.ratios import ZERO, add, add_all, less, ratio
from tollroads.roadflows import time_on
from tollroads.shapes import are_amounts, is_ratio, is_row
from tollroads.spreads import least_spread
from tollroads.trips import check_demand


def check_lanes(lanes):
    if not is_row(lanes, 1, 8):
        raise BadLanes(None)
    for index, lane in enumerate(lanes):
        if not is_line(lane):
            raise BadLanes(index)


def slopes_of(lanes):
    return [slope for slope, _ in lanes]


def bases_of(lanes):
    """Return the bases as ratios."""
    return [(base, 1) for _, base in lanes]


def lane_spread(slopes, bases, amount):
    """Return a tuple of flows at rest with the sum `amount`, a ratio from 0 on; the bases are ratios."""
    if amount == ZERO:
        return tuple([ZERO for _ in slopes])
    table = [(index,) for index in range(len(slopes))]
    part = least_spread(slopes, bases, [table], [amount])[0]
    found = {way[0]: flow for way, flow in part}
    return tuple([found.get(index, ZERO) for index in range(len(slopes))])


def lane_times(lanes, flows):
    return [time_on(slope, base, flow) for (slope, base), flow in zip(lanes, flows)]


def are_flows(lanes, amount, value):
    """Tell whether a value is a tuple of ratios from 0 on, one for each lane, with this sum."""
    return are_amounts(value, len(lanes)) and add_all(value) == amount


def least_ratio(rows):
    lowest = rows[0]
    for row in rows:
        if less(row, lowest):
            lowest = row
    return lowest


def only_least_used(costs, flows):
    """Tell whether each lane with a flow has the least of all costs."""
    lowest = least_ratio(costs)
    return all([flow == ZERO or cost == lowest for cost, flow in zip(costs, flows)])


def lane_rest(lanes, demand):
    """Return the pair of the time of the used lanes at rest and a tuple of flows."""
    check_lanes(lanes)
    check_demand(demand)
    flows = lane_spread(slopes_of(lanes), bases_of(lanes), demand)
    return (least_ratio(lane_times(lanes, flows)), flows)


def shows_lane_rest(lanes, demand, value):
    """Tell whether a value is a pair as `lane_rest` may return."""
    check_lanes(lanes)
    check_demand(demand)
    if not (is_row(value, 2, 2) and is_ratio(value[0]) and are_flows(lanes, demand, value[1])):
        return False
    costs = lane_times(lanes, value[1])
    return only_least_used(costs, value[1]) and least_ratio(costs) == value[0]


def lane_corners(lanes, most):
    """Return the ascending tuple of the pairs (demand, time) between which the time grows straight."""
    check_lanes(lanes)
    check_demand(most)
    bases = sorted(set([base for _, base in lanes]))
    flat = [base for slope, base in lanes if slope == 0]
    corners = [(ZERO, (bases[0], 1))]
    for base in bases[1:]:
        # A lane with a base above that of one without a slope is never used: the time does not get there.
        if all([base <= other for other in flat]):
            demand = demand_at(lanes, base)
            if less(demand, most):
                corners.append((demand, (base, 1)))
    return (*corners, (most, lane_rest(lanes, most)[0]))


def demand_at(lanes, time):
    """Return the demand for which the lanes with smaller bases, none without a slope, all take this time."""
    found = ZERO
    for slope, base in lanes:
        if base < time:
            found = add(found, ratio(time - base, slope))
    return found
