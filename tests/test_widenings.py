"""Point 26: lowered slopes, what they are worth at rest, and how far the amounts of a rest may go."""

import itertools
import unittest
from fractions import Fraction
from functools import lru_cache

from tests.linear import greatest
from tests.support import (BRAESS, CROSSED, FLAT, FREE, INTEGER_WRONGS, MIXTURES, PIGOU, Raising, SHARED, SHARED_TRIPS,
                           SMALL, TWENTY, TWENTY_ONE, at_rest, flows_of, number, ratio, samples, times_of, total_of,
                           way_costs, ways_of, zeros)
from tollroads.errors import BadBudget, BadIndex, BadNet, BadSlope, BadTrips, BadWay, TooMany
from tollroads.rests import rest, rest_total, shows_rest
from tollroads.widenings import amount_range, best_widening, widened

TRIPS = ((0, 2, (3, 2)), (0, 1, (1, 1)))
ONE = ((0, 3, (1, 1)),)


def lowered(net, steps):
    return (net[0], tuple((start, end, slope - step, base) for (start, end, slope, base), step in zip(net[1], steps)))


def best_by_trying(net, trips, budget):
    """The least total and the smallest tuple of steps with it, all tuples tried."""
    steep = [road[2] for road in net[1]]
    found = []
    for steps in itertools.product(*[range(min(slope, budget) + 1) for slope in steep]):
        if sum(steps) <= budget:
            found.append((total_at_rest(lowered(net, steps), trips), steps))
    return min(found)


@lru_cache(maxsize=None)
def total_at_rest(net, trips):
    routing = rest(net, trips, zeros(net))
    assert at_rest(net, trips, zeros(net), routing)
    return total_of(net, routing)


def furthest(net, trips, index, way, sign):
    """The greatest (or least) amount on a way, reckoned by changes from one rest that leave the steep roads alone."""
    routing = rest(net, trips, zeros(net))
    times, columns = times_of(net, routing), []
    for place, (trip, part) in enumerate(zip(trips, routing)):
        costs = way_costs(net, trip, times)
        for other in [other for other in costs if costs[other] == min(costs.values())]:
            columns.append((place, other, 1, None))
        columns += [(place, other, -1, number(amount)) for other, amount in part]
    factors, bounds = [], []
    for road in [road for road in range(len(net[1])) if net[1][road][2] > 0]:
        for side in (1, -1):
            factors.append([side * step * int(road in other) for _, other, step, _ in columns])
            bounds.append(Fraction(0))
    for trip in range(len(trips)):
        for side in (1, -1):
            factors.append([side * step * int(place == trip) for place, _, step, _ in columns])
            bounds.append(Fraction(0))
    for place, other, step, most in columns:
        if step < 0:
            factors.append([int((place, other, step, most) == column) for column in columns])
            bounds.append(most)
    gains = [sign * step * int((place, other) == (index, way)) for place, other, step, _ in columns]
    now = sum(number(amount) for other, amount in routing[index] if other == way)
    return now + sign * greatest(factors, bounds, gains)


def ways_in(net, trips):
    return [(index, way) for index, trip in enumerate(trips) for way in ways_of(net, trip[0], trip[1])]


class WidenedTest(Raising, unittest.TestCase):
    def test_each_road_and_slope(self):
        for net in (SMALL, BRAESS, FLAT, SHARED):
            for index, road in enumerate(net[1]):
                for slope in range(road[2] + 1):
                    wanted = (net[0], (*net[1][:index], (*road[:2], slope, road[3]), *net[1][index + 1:]))
                    self.assert_same(widened(net, index, slope), wanted)

    def test_worked_out_by_hand(self):
        self.assert_same(widened(SMALL, 2, 1), (3, ((0, 1, 1, 2), (0, 2, 0, 5), (1, 2, 1, 0))))
        self.assert_same(widened((2, ((0, 1, 100, 1000),)), 0, 99), (2, ((0, 1, 99, 1000),)))

    def test_slopes_that_are_no_smaller(self):
        for index, road in enumerate(SMALL[1]):
            for slope in (road[2] + 1, 101, *INTEGER_WRONGS, (0,), [0], "0", (0, 1)):
                self.assert_raises(BadSlope, {}, widened, SMALL, index, slope)

    def test_a_slope_of_nothing(self):
        self.assert_same(widened(SMALL, 1, 0), SMALL)
        self.assert_raises(BadSlope, {}, widened, SMALL, 1, 1)

    def test_indexes(self):
        for index in (*INTEGER_WRONGS, 3, 10, -3, (0, 1), [1], "2"):
            self.assert_raises(BadIndex, {}, widened, SMALL, index, 0)
            self.assert_raises(BadIndex, {}, widened, SMALL, index, "x")

    def test_no_bound_on_ways(self):
        self.assert_same(widened(TWENTY_ONE, 0, 0)[1][0], (0, 1, 0, 0))


class BestTest(Raising, unittest.TestCase):
    def check(self, net, trips, budget):
        total, steps = best_by_trying(net, trips, budget)
        self.assert_same(best_widening(net, trips, budget), (ratio(total), steps))
        return steps

    def test_many_nets(self):
        found = [self.check(net, trips, at % 5) for at, (net, trips, _) in enumerate(samples(141, 60))]
        self.assertGreater(len({steps for steps in found if sum(steps) > 1}), 5)

    def test_each_budget(self):
        for net, trips in ((SMALL, TRIPS), (BRAESS, ONE), (PIGOU, ((0, 1, (1, 1)),)), (CROSSED, ((0, 2, (2, 1)),)),
                           (FLAT, ((0, 1, (5, 1)),)), (FREE, ((0, 1, (2, 1)),))):
            for budget in range(5):
                self.check(net, trips, budget)

    def test_three_trips(self):
        self.check(SHARED, SHARED_TRIPS, 2)

    def test_no_budget(self):
        for net, trips, _ in samples(142, 25):
            self.assert_same(best_widening(net, trips, 0),
                             (rest_total(net, trips, zeros(net)), (0,) * len(net[1])))

    def test_worked_out_by_hand(self):
        self.assert_same(best_widening(FLAT, ((0, 1, (4, 1)),), 1), ((20, 1), (0, 0, 0)))
        # Two steep roads in a row: a step saves as much on each of them, and the later one makes the smaller tuple.
        row = (3, ((0, 1, 3, 1), (1, 2, 3, 1)))
        self.assert_same(best_widening(row, ((0, 2, (2, 1)),), 1), ((24, 1), (0, 1)))
        self.assert_same(best_widening(row, ((0, 2, (2, 1)),), 4), ((12, 1), (1, 3)))
        # A flat road beside a steep one, on which all would go if it took less.
        self.assert_same(best_widening((2, ((0, 1, 1, 0), (0, 1, 0, 1))), ((0, 1, (1, 1)),), 1), ((0, 1), (1, 0)))
        # The middle road of Braess's net draws all: widening its first road alone does not make it worse.
        self.assert_same(best_widening(BRAESS, ONE, 2), ((0, 1), (1, 0, 0, 1, 0)))

    def test_no_step_is_taken_in_vain(self):
        # The road 0 lies on no way, the road 1 is never used, and the road 3 is steep by 1 only.
        net = (3, ((1, 0, 5, 0), (0, 2, 9, 900), (0, 1, 0, 1), (1, 2, 1, 0)))
        self.assert_same(best_widening(net, ((0, 2, (3, 1)),), 4), ((3, 1), (0, 0, 0, 1)))
        # Where more steps are worth no less, the smallest tuple has fewer.
        self.assert_same(best_widening((2, ((0, 1, 0, 0), (0, 1, 9, 0))), ((0, 1, (3, 1)),), 4), ((0, 1), (0, 0)))

    def test_a_wider_road_may_harm(self):
        # With the first road steep by 2, half take it; a wider one would make no total smaller.
        found = 0
        for net, trips, _ in samples(143, 60):
            for index, road in enumerate(net[1]):
                if road[2] > 0:
                    after = rest_total(widened(net, index, road[2] - 1), trips, zeros(net))
                    found += number(after) > number(rest_total(net, trips, zeros(net)))
        self.assertGreater(found, 0)

    def test_budgets(self):
        for budget in (*INTEGER_WRONGS, 5, -1, (1,), [1], "1", (1, 1)):
            self.assert_raises(BadBudget, {}, best_widening, SMALL, TRIPS, budget)
            self.assert_raises(BadBudget, {}, best_widening, TWENTY_ONE, ((0, 2, (1, 1)),), budget)


class RangeTest(Raising, unittest.TestCase):
    def check(self, net, trips, index, way):
        value = amount_range(net, trips, index, way)
        wanted = (furthest(net, trips, index, way, -1), furthest(net, trips, index, way, 1))
        self.assert_same(value, tuple(ratio(end) for end in wanted))
        return wanted[0] < wanted[1]

    def test_many_nets(self):
        found = []
        for net, trips, _ in samples(144, 120):
            found += [self.check(net, trips, *place) for place in ways_in(net, trips)[::2]]
        self.assertGreater(sum(found), 20)

    def test_mixtures(self):
        found = []
        for net, trips in MIXTURES:
            found += [self.check(net, trips, *place) for place in ways_in(net, trips)]
        self.assertGreater(sum(found), 10)

    def test_routings_at_rest_keep_to_the_range(self):
        for net, trips, _ in samples(145, 60):
            routing = rest(net, trips, zeros(net))
            for index, way in ways_in(net, trips)[::2]:
                amount = number(dict(routing[index]).get(way, (0, 1)))
                low, high = map(number, amount_range(net, trips, index, way))
                self.assertTrue(0 <= low <= amount <= high <= number(trips[index][2]))

    def test_worked_out_by_hand(self):
        trips = ((0, 1, (4, 1)),)
        flat = (2, ((0, 1, 0, 5), (0, 1, 0, 5), (0, 1, 1, 3)))
        self.assert_same(amount_range(flat, trips, 0, (0,)), ((0, 1), (2, 1)))
        self.assert_same(amount_range(flat, trips, 0, (2,)), ((2, 1), (2, 1)))
        # Two pairs of roads in a row: each way may get from nothing to what the roads have.
        for way in ((0, 2), (0, 3), (1, 2), (1, 3)):
            self.assert_same(amount_range(CROSSED, ((0, 2, (2, 1)),), 0, way), ((0, 1), (1, 1)))
        # Three on one road of the first pair, and two on one of the second pair: at least one takes both.
        net = (3, ((0, 1, 1, 0), (0, 1, 1, 2), (1, 2, 1, 0), (1, 2, 1, 0)))
        for way, low, high in (((0, 2), 1, 2), ((0, 3), 1, 2), ((1, 2), 0, 1), ((1, 3), 0, 1)):
            self.assert_same(amount_range(net, ((0, 2, (4, 1)),), 0, way), ((low, 1), (high, 1)))

    def test_ways_that_no_rest_uses(self):
        self.assert_same(amount_range(FLAT, ((0, 1, (4, 1)),), 0, (2,)), ((0, 1), (0, 1)))
        # As cheap as the others at rest, but used by nobody.
        self.assert_same(amount_range(PIGOU, ((0, 1, (1, 1)),), 0, (1,)), ((0, 1), (0, 1)))
        self.assert_same(amount_range(BRAESS, ONE, 0, (0, 2)), ((0, 1), (0, 1)))
        self.assert_same(amount_range(BRAESS, ONE, 0, (0, 4, 3)), ((1, 1), (1, 1)))

    def test_trips_that_change_places(self):
        # Both trips may use the first two flat roads, and only the sum on the steep one is fixed.
        net = (3, ((0, 1, 0, 1), (0, 1, 1, 0), (1, 2, 0, 0)))
        trips = ((0, 1, (1, 2)), (0, 2, (3, 1)))
        self.assert_same(amount_range(net, trips, 0, (1,)), ((0, 1), (1, 2)))
        self.assert_same(amount_range(net, trips, 1, (1, 2)), ((1, 2), (1, 1)))
        self.assert_same(amount_range(net, trips, 1, (0, 2)), ((2, 1), (5, 2)))

    def test_both_ends_are_reached(self):
        # A routing with just the greatest amount is at rest, one with a little more is not.
        net, trips = (2, ((0, 1, 0, 5), (0, 1, 0, 5), (0, 1, 1, 3))), ((0, 1, (4, 1)),)
        for amount, wanted in ((Fraction(2), True), (Fraction(201, 100), False), (Fraction(1), True)):
            parts = {(0,): amount, (1,): 2 - amount, (2,): Fraction(2)}
            if wanted or parts[(1,)] < 0:
                parts[(2,)] = 4 - amount - max(parts[(1,)], 0)
                routing = (tuple((way, ratio(size)) for way, size in sorted(parts.items()) if size > 0),)
                self.assertIs(shows_rest(net, trips, zeros(net), routing), wanted)

    def test_flows_stay(self):
        # What a range says is reckoned from the flows of steep roads, which all rests share.
        for net, trips in MIXTURES[:4]:
            steep = [road for road in range(len(net[1])) if net[1][road][2] > 0]
            flows = flows_of(net, rest(net, trips, zeros(net)))
            for road in steep:
                through = [place for place in ways_in(net, trips) if road in place[1]]
                ends = [list(map(number, amount_range(net, trips, *place))) for place in through]
                self.assertTrue(sum(low for low, _ in ends) <= flows[road] <= sum(high for _, high in ends))


class WrongTest(Raising, unittest.TestCase):
    def test_indexes(self):
        for index in (*INTEGER_WRONGS, 2, -1, -2, (0,), [0], "0", (0, 1)):
            self.assert_raises(BadIndex, {}, amount_range, SMALL, TRIPS, index, (0, 2))
            self.assert_raises(BadIndex, {}, amount_range, SMALL, TRIPS, index, "x")

    def test_ways(self):
        for way in (*INTEGER_WRONGS, [0, 2], (2,), (0,), (0, 2, 1), (2, 0), (False, 2), ((0, 2),), (None,), ("1",),
                    ([0], 2), {0: 0, 1: 2}, 0, 1, (True,)):
            self.assert_raises(BadWay, {}, amount_range, SMALL, TRIPS, 0, way)
        for way in ((0, 2), (1,), (True,), (False,), [0]):
            self.assert_raises(BadWay, {}, amount_range, SMALL, TRIPS, 1, way)

    def test_twenty_ways_and_one_more(self):
        trips = ((0, 2, (1, 1)),)
        for function, more in ((best_widening, (1,)), (amount_range, (0, (0, 4)))):
            function(TWENTY, trips, *more)
            self.assert_raises(TooMany, {"most": 20}, function, TWENTY_ONE, trips, *more)
            self.assert_raises(TooMany, {"most": 20}, function, TWENTY_ONE, ((0, 1, (1, 1)), *trips),
                               *((1,) if function is best_widening else (1, (0, 4))))
            self.assert_raises(BadTrips, {"index": 1}, function, TWENTY_ONE, trips * 2, *more)
        self.assert_raises(BadIndex, {}, amount_range, TWENTY_ONE, trips, 1, (0, 4))
        self.assert_raises(BadWay, {}, amount_range, TWENTY_ONE, trips, 0, (4, 0))

    def test_the_leftmost_error(self):
        for function, more in ((best_widening, ("x",)), (amount_range, ("x", "x"))):
            self.assert_raises(BadNet, {"index": None}, function, "x", "x", *more)
            self.assert_raises(BadNet, {"index": 0}, function, (2, ("x",)), TRIPS, *more)
            self.assert_raises(BadTrips, {"index": None}, function, SMALL, [], *more)
            self.assert_raises(BadTrips, {"index": 0}, function, SMALL, ((2, 0, (1, 1)),), *more)
        self.assert_raises(BadNet, {"index": None}, widened, "x", "x", "x")
        self.assert_raises(BadNet, {"index": 1}, widened, (2, ((0, 1, 0, 0), 5)), 0, 0)


if __name__ == "__main__":
    unittest.main()
