"""What the tests share: nets, an own reckoning with fractions, and wrong values of all kinds."""

import copy
import random
from fractions import Fraction
from math import gcd

from tollroads.errors import RoadError

BRAESS = (4, ((0, 1, 1, 0), (0, 2, 0, 1), (1, 3, 0, 1), (2, 3, 1, 0), (1, 2, 0, 0)))
SMALL = (3, ((0, 1, 1, 2), (0, 2, 0, 5), (1, 2, 3, 0)))
PIGOU = (2, ((0, 1, 1, 0), (0, 1, 0, 1)))
# Two roads that cost the same whatever is on them, and one that is dearer.
FLAT = (2, ((0, 1, 0, 5), (0, 1, 0, 5), (0, 1, 1, 7)))
# Two pairs of roads in a row: the ways of a rest can be mixed without changing any flow.
CROSSED = (3, ((0, 1, 1, 0), (0, 1, 1, 0), (1, 2, 1, 0), (1, 2, 1, 0)))
FREE = (2, ((0, 1, 0, 0), (0, 1, 3, 4)))
# A middle road that three trips share.
SHARED = (5, ((0, 2, 1, 1), (1, 2, 2, 0), (2, 3, 3, 1), (3, 4, 1, 0), (0, 4, 0, 30), (1, 3, 0, 25), (2, 4, 5, 9)))
SHARED_TRIPS = ((0, 4, (3, 1)), (1, 3, (7, 2)), (2, 4, (5, 3)))

# Four ways over four pairs of roads with slopes: ways can be mixed without changing the flows on these.
MIXTURES = (
    ((6, ((0, 1, 1, 2), (0, 2, 19, 3), (3, 5, 11, 4), (4, 5, 11, 1), (1, 3, 0, 1), (1, 4, 0, 1), (2, 3, 0, 4),
          (2, 4, 0, 2), (0, 2, 0, 3), (2, 3, 0, 5))), ((0, 5, (7, 1)),)),
    ((6, ((0, 1, 10, 3), (0, 2, 19, 2), (3, 5, 7, 2), (4, 5, 7, 8), (1, 3, 0, 21), (1, 4, 0, 5), (2, 3, 0, 26),
          (2, 4, 0, 9))), ((0, 5, (17, 4)),)),
    ((6, ((0, 1, 9, 1), (0, 2, 11, 2), (3, 5, 9, 3), (4, 5, 8, 5), (1, 3, 0, 0), (1, 4, 0, 1), (2, 3, 0, 3),
          (2, 4, 0, 5))), ((0, 5, (16, 3)),)),
    ((6, ((0, 1, 8, 2), (0, 2, 11, 0), (3, 5, 3, 0), (4, 5, 13, 2), (1, 3, 0, 1), (1, 4, 0, 2), (2, 3, 0, 0),
          (2, 4, 0, 0))), ((0, 5, (23, 3)),)),
    ((6, ((0, 1, 1, 8), (0, 2, 0, 19), (3, 5, 2, 21), (4, 5, 2, 13), (1, 3, 0, 28), (1, 4, 0, 24), (2, 3, 0, 28),
          (2, 4, 0, 19))), ((0, 3, (10, 1)), (0, 5, (10, 1)), (1, 5, (22, 5)))),
    ((6, ((0, 1, 1, 0), (0, 2, 1, 2), (3, 5, 1, 1), (4, 5, 0, 2), (1, 3, 0, 2), (1, 4, 0, 2), (2, 3, 0, 1),
          (2, 4, 0, 2))), ((0, 5, (16, 3)), (1, 5, (1, 1)), (0, 3, (16, 5)))),
    ((6, ((0, 1, 3, 1), (0, 2, 4, 1), (3, 5, 11, 1), (4, 5, 1, 2), (1, 3, 0, 1), (1, 4, 0, 0), (2, 3, 0, 2),
          (2, 4, 0, 2), (1, 2, 0, 2), (1, 2, 0, 1))), ((0, 5, (6, 1)), (2, 5, (9, 2)), (0, 3, (16, 3)))),
    ((6, ((0, 1, 14, 0), (0, 2, 6, 2), (3, 5, 1, 2), (4, 5, 17, 0), (1, 3, 0, 1), (1, 4, 0, 2), (2, 3, 0, 2),
          (2, 4, 0, 2))), ((0, 4, (9, 4)), (0, 5, (23, 1)), (1, 5, (6, 5)))),
    ((6, ((0, 1, 4, 0), (0, 2, 9, 1), (3, 5, 1, 1), (4, 5, 6, 1), (1, 3, 0, 1), (1, 4, 0, 0), (2, 3, 0, 2),
          (2, 4, 0, 0), (1, 2, 0, 0))), ((1, 5, (1, 1)), (0, 5, (23, 2)))),
    ((6, ((0, 1, 20, 28), (0, 2, 11, 27), (3, 5, 19, 22), (4, 5, 11, 1), (1, 3, 0, 22), (1, 4, 0, 23), (2, 3, 0, 19),
          (2, 4, 0, 23))), ((2, 5, (19, 5)), (0, 5, (5, 4)))),
)


def fan(first, second):
    """A net with this many roads from 0 to 1 and that many from 1 to 2."""
    roads = [(0, 1, k + 1, k) for k in range(first)] + [(1, 2, k % 3, 2 * k) for k in range(second)]
    return (3, tuple(roads))


TWENTY = fan(4, 5)
TWENTY_ONE = fan(3, 7)


def number(ratio):
    return Fraction(ratio[0], ratio[1])


def ratio(value):
    value = Fraction(value)
    return (value.numerator, value.denominator)


def reduced(top, bottom):
    return ratio(Fraction(top, bottom))


def is_ratio(value):
    """Whether a value is a ratio of the document, True and False not counted as integers."""
    if not (isinstance(value, tuple) and len(value) == 2 and [type(part) for part in value] == [int, int]):
        return False
    return value[1] > 0 and gcd(*value) == 1


def ways_of(net, start, goal, met=()):
    """All ways in ascending order, found by walking on."""
    if start == goal:
        return [()]
    found = []
    for index, road in enumerate(net[1]):
        if road[0] == start and road[1] not in met and road[1] != start:
            found += [(index,) + rest for rest in ways_of(net, road[1], goal, (*met, start))]
    return sorted(found)


def flows_of(net, routing):
    found = [Fraction(0)] * len(net[1])
    for part in routing:
        for way, amount in part:
            for road in way:
                found[road] += number(amount)
    return found


def times_of(net, routing):
    return [road[2] * flow + road[3] for road, flow in zip(net[1], flows_of(net, routing))]


def total_of(net, routing):
    return sum(flow * time for flow, time in zip(flows_of(net, routing), times_of(net, routing)))


def potential_of(net, routing):
    pairs = zip(net[1], flows_of(net, routing))
    return sum(Fraction(road[2], 2) * flow ** 2 + road[3] * flow for road, flow in pairs)


def way_costs(net, trip, costs):
    return {way: sum(costs[road] for road in way) for way in ways_of(net, trip[0], trip[1])}


def costs_with(net, routing, tolls):
    return [time + number(toll) for time, toll in zip(times_of(net, routing), tolls)]


def margins_of(net, routing):
    return [2 * road[2] * flow + road[3] for road, flow in zip(net[1], flows_of(net, routing))]


def is_routing(net, trips, value):
    """Whether a value has the form of a routing, and the right sums."""
    if not (isinstance(value, tuple) and len(value) == len(trips)):
        return False
    for trip, part in zip(trips, value):
        known = ways_of(net, trip[0], trip[1])
        if not (isinstance(part, tuple) and all(isinstance(pair, tuple) and len(pair) == 2 for pair in part)):
            return False
        used = [pair[0] for pair in part]
        if not all(isinstance(way, tuple) and way in known for way in used):
            return False
        if not all(type(road) is int for way in used for road in way) or used != sorted(set(used)):
            return False
        if not all(is_ratio(pair[1]) and pair[1][0] > 0 for pair in part):
            return False
        if sum(number(pair[1]) for pair in part) != number(trip[2]):
            return False
    return True


def uses_least(net, trips, routing, costs):
    """Whether each used way has the least cost of the ways of its trip."""
    for trip, part in zip(trips, routing):
        known = way_costs(net, trip, costs)
        if any(known[way] != min(known.values()) for way, _ in part):
            return False
    return True


def at_rest(net, trips, tolls, routing):
    return is_routing(net, trips, routing) and uses_least(net, trips, routing, costs_with(net, routing, tolls))


def is_best(net, trips, routing):
    """Whether a routing has the least total: no way has a smaller margin than a used one, and the total is convex."""
    return is_routing(net, trips, routing) and uses_least(net, trips, routing, margins_of(net, routing))


def zeros(net):
    return ((0, 1),) * len(net[1])


def shifted(net, trips, routing, part, source, target, size):
    """A routing with some amount of one part moved from one way to another one, or None if it is not there."""
    amounts = {way: number(amount) for way, amount in routing[part]}
    if amounts.get(source, 0) < size or source == target:
        return None
    amounts[source] -= size
    amounts[target] = amounts.get(target, 0) + size
    moved = tuple((way, ratio(amounts[way])) for way in sorted(amounts) if amounts[way] > 0)
    return (*routing[:part], moved, *routing[part + 1:])


def neighbours(net, trips, routing, size):
    """All routings that differ by one moved amount."""
    found = []
    for part, trip in enumerate(trips):
        for source, amount in routing[part]:
            for target in ways_of(net, trip[0], trip[1]):
                moved = shifted(net, trips, routing, part, source, target, min(size, number(amount)))
                if moved is not None:
                    found.append(moved)
    return found


def closed(net, road):
    """The net without a road, None if there is no other one."""
    if len(net[1]) == 1:
        return None
    return (net[0], net[1][:road] + net[1][road + 1:])


def has_way(net, start, goal):
    return net is not None and len(ways_of(net, start, goal)) > 0


def sample_net(chance, ties):
    """A net by chance; `ties` makes small numbers, so that many costs are equal."""
    size = chance.choice((2, 3, 3, 4, 4, 5, 6))
    slope, base = (1, 2) if ties else (9, 40)
    roads = []
    for _ in range(chance.randint(1, 10)):
        start, end = chance.sample(range(size), 2)
        if chance.random() < 0.6 and start > end:
            start, end = end, start
        roads.append((start, end, chance.choice((0, 1, chance.randint(0, slope))), chance.randint(0, base)))
    return (size, tuple(roads))


def sample_ratio(chance, top, bottom):
    return reduced(chance.randint(1, top), chance.randint(1, bottom))


def sample_trips(chance, net, most=3):
    """One to three trips by chance, () if the net has no fitting ones."""
    ends = [(start, goal) for start in range(net[0]) for goal in range(net[0]) if start != goal]
    ends = [pair for pair in ends if 1 <= len(ways_of(net, *pair)) <= 20]
    chance.shuffle(ends)
    ends.sort(key=lambda pair: -len(ways_of(net, *pair)))
    return tuple((*pair, sample_ratio(chance, 12, 5)) for pair in ends[:chance.randint(1, most)])


def sample_tolls(chance, net):
    return tuple(chance.choice(((0, 1), reduced(chance.randint(0, 9), chance.randint(1, 4)))) for _ in net[1])


def samples(seed, many):
    """So many triples (net, trips, tolls), the same ones in each run."""
    chance = random.Random(seed)
    found = []
    while len(found) < many:
        net = sample_net(chance, len(found) % 2 == 0)
        trips = sample_trips(chance, net)
        if trips:
            found.append((net, trips, sample_tolls(chance, net)))
    return found


def mixtures(seed, many):
    """So many pairs (net, trips) like those of MIXTURES."""
    chance = random.Random(seed)
    found = list(MIXTURES)
    while len(found) < many:
        slope, base = chance.choice(((1, 2), (3, 5), (20, 30)))
        steep = [(*ends, chance.randint(0, slope), chance.randint(0, base))
                 for ends in ((0, 1), (0, 2), (3, 5), (4, 5))]
        level = [(*ends, 0, chance.randint(0, base)) for ends in ((1, 3), (1, 4), (2, 3), (2, 4))]
        ends = [(0, 5), (0, 3), (0, 4), (1, 5), (2, 5)]
        chance.shuffle(ends)
        trips = tuple((*pair, sample_ratio(chance, 30, 5)) for pair in ends[:chance.randint(1, 3)])
        found.append(((6, tuple(steep + level)), trips))
    return found


def sample_lanes(seed, many):
    """So many pairs (lanes, demand)."""
    chance = random.Random(seed)
    found = []
    for index in range(many):
        slope, base = (2, 2) if index % 2 else (9, 30)
        count = chance.randint(1, 8)
        lanes = tuple((chance.choice((0, chance.randint(1, slope), chance.randint(1, slope))),
                       chance.randint(0, base)) for _ in range(count))
        found.append((lanes, sample_ratio(chance, 40, 6)))
    return found


def lane_times(lanes, flows):
    return [slope * number(flow) + base for (slope, base), flow in zip(lanes, flows)]


def lane_margins(lanes, flows):
    return [2 * slope * number(flow) + base for (slope, base), flow in zip(lanes, flows)]


def are_flows(lanes, amount, value):
    if not (isinstance(value, tuple) and len(value) == len(lanes)):
        return False
    return all(is_ratio(flow) and flow[0] >= 0 for flow in value) and sum(map(number, value)) == amount


def only_least_used(costs, flows):
    return all(cost == min(costs) for cost, flow in zip(costs, flows) if flow != (0, 1))


INTEGER_WRONGS = ("x", "", "0", "1", True, False, None, (), (0,), [], [0], [1], {}, {0: 1}, -1, 10 ** 9, 10 ** 30)


def row_wrongs(value):
    return ("x", "0 1", 0, 1, -7, True, False, None, (), [], list(value), {}, {0: 1}, dict(enumerate(value)), (None,),
            ((),), ([],), ({},), ("x",) * len(value), (*value, None))


def spoiled(value):
    """Pairs (path, copy): each copy of a value with one wrong thing at a place in it; `path` tells the place."""
    if not isinstance(value, tuple):
        return [((), wrong) for wrong in INTEGER_WRONGS]
    found = [((), wrong) for wrong in row_wrongs(value)]
    for index, part in enumerate(value):
        for path, wrong in spoiled(part):
            found.append(((index, *path), (*value[:index], wrong, *value[index + 1:])))
    return found


class Raising:
    """Mixed into test cases: what a call raises."""

    def assert_raises(self, error, field, function, *arguments):
        """Check the class of the error exactly, its field, and that no argument has been changed."""
        before = copy.deepcopy(arguments)
        with self.assertRaises(RoadError) as caught:
            function(*arguments)
        self.assertIs(type(caught.exception), error, arguments)
        for name, wanted in field.items():
            got = getattr(caught.exception, name)
            self.assertEqual((type(got), got), (type(wanted), wanted), arguments)
        self.assertEqual(repr(arguments), repr(before))

    def assert_same(self, value, wanted):
        """Check equality with kinds: True is not 1, and a list is no tuple."""
        self.assertEqual(repr(value), repr(wanted))
