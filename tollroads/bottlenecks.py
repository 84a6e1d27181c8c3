"""A bottleneck: travellers who all wish to be behind it at the time 0 pass it one behind another."""

from tollroads.errors import BadBottleneck, BadTime
from tollroads.ratios import ZERO, add, divide, less, multiply, ratio, subtract
from tollroads.shapes import is_ratio, is_row, is_whole


def is_bottleneck(value):
    """Tell whether a value is a quintuple (travellers, rate, waiting, early, late)."""
    if not (is_row(value, 5, 5) and is_whole(value[0], 1, 1000)):
        return False
    return all([is_whole(number, 1, 100) for number in value[1:]]) and value[3] < value[2]


def check_bottleneck(some):
    if not is_bottleneck(some):
        raise BadBottleneck("the value is no bottleneck")


def check_moment(some, time):
    check_bottleneck(some)
    if not is_ratio(time):
        raise BadTime("the value is no ratio")


def cost_of_all(some):
    """Return the cost of each traveller at rest.

    The first one is early and the last one late by so much that both pay the same, and between the two the bottleneck
    is never idle.
    """
    travellers, rate, _, early, late = some
    return ratio(travellers * early * late, rate * (early + late))


def rush(some):
    """Return the quintuple (first, turn, last, fast, slow) of a bottleneck that is known to be right."""
    _, rate, waiting, early, late = some
    cost = cost_of_all(some)
    # The first and the last one pay only for the time at which they pass, the one behind it at 0 only for the queue.
    first = divide(cost, (-early, 1))
    turn = divide(cost, (-waiting, 1))
    last = divide(cost, (late, 1))
    return (first, turn, last, ratio(rate * waiting, waiting - early), ratio(rate * waiting, waiting + late))


def bottleneck_rest(some):
    """Return the quintuple of the first time, the time of the turn, the last time, the fast and the slow rate."""
    check_bottleneck(some)
    return rush(some)


def bottleneck_cost(some):
    """Return the cost of each traveller at rest."""
    check_bottleneck(some)
    return cost_of_all(some)


def time_within(low, high, time):
    """Return how much of the time from low to high is over at a time."""
    if less(time, low):
        return ZERO
    if less(high, time):
        return subtract(high, low)
    return subtract(time, low)


def come_by(some, time):
    """Return how many travellers have come to the bottleneck until a time."""
    first, turn, last, fast, slow = rush(some)
    return add(multiply(fast, time_within(first, turn, time)), multiply(slow, time_within(turn, last, time)))


def passed_by(some, time):
    """Return how many travellers are behind the bottleneck at a time."""
    check_moment(some, time)
    first, _, last, _, _ = rush(some)
    return multiply((some[1], 1), time_within(first, last, time))


def queue_at(some, time):
    """Return how many travellers are in the queue at a time."""
    passed = passed_by(some, time)
    return subtract(come_by(some, time), passed)


def passing_cost(some, time):
    """Return what it costs to be behind the bottleneck at a time, without the queue."""
    if time[0] < 0:
        return multiply((-some[3], 1), time)
    return multiply((some[4], 1), time)


def cost_at(some, time):
    """Return the cost of one more who comes at a time, the others as they are."""
    wait = divide(queue_at(some, time), (some[1], 1))
    return add(multiply((some[2], 1), wait), passing_cost(some, add(time, wait)))


def toll_at(some, time):
    """Return the toll for being behind the bottleneck at a time, with which nobody has to wait."""
    check_moment(some, time)
    toll = subtract(cost_of_all(some), passing_cost(some, time))
    if toll[0] < 0:
        return ZERO
    return toll


def bottleneck_totals(some):
    """Return the pair of the sums of all costs at rest and with the tolls, the tolls left out."""
    check_bottleneck(some)
    total = multiply((some[0], 1), cost_of_all(some))
    # With the tolls the costs of those who pass, one behind another, fall straight from that cost to 0 and rise again.
    return (total, divide(total, (2, 1)))
