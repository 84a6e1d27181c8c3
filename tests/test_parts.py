"""Point 10: roads that harm, the best part of a net, and closures."""

import itertools
import unittest

from tests.support import (BRAESS, CROSSED, FLAT, FREE, INTEGER_WRONGS, PIGOU, Raising, SHARED, SHARED_TRIPS, SMALL,
                           TWENTY, TWENTY_ONE, closed, has_way, number, reduced, samples, ways_of, zeros)
from tollroads.errors import BadDemand, BadNet, BadNode, BadTrips, NoWay, TooMany
from tollroads.parts import best_part, closures, harmful_roads
from tollroads.rests import rest_costs, rest_total

PAIRS = (harmful_roads, best_part)


def cost_at_rest(net, start, goal, demand):
    return number(rest_costs(net, ((start, goal, demand),), zeros(net))[0])


def harmful_by_closing(net, start, goal, demand):
    """The harmful roads, found by leaving each one out."""
    cost = cost_at_rest(net, start, goal, demand)
    found = []
    for road in range(len(net[1])):
        left = closed(net, road)
        if has_way(left, start, goal) and cost_at_rest(left, start, goal, demand) < cost:
            found.append(road)
    return tuple(found)


def best_by_trying(net, start, goal, demand):
    """The best part, found by trying all sets of roads that lie on ways."""
    roads = sorted({road for way in ways_of(net, start, goal) for road in way})
    found = []
    for many in range(1, len(roads) + 1):
        for kept in itertools.combinations(roads, many):
            part = (net[0], tuple(net[1][road] for road in kept))
            if has_way(part, start, goal):
                found.append((cost_at_rest(part, start, goal, demand), many, kept))
    cost, _, kept = min(found)
    return ((cost.numerator, cost.denominator), kept)


def totals_by_closing(net, trips):
    found = []
    for road in range(len(net[1])):
        left = closed(net, road)
        if all(has_way(left, start, goal) for start, goal, _ in trips):
            found.append(rest_total(left, trips, zeros(left)))
        else:
            found.append(None)
    return tuple(found)


class HarmfulTest(Raising, unittest.TestCase):
    def test_worked_out_by_hand(self):
        for demand, roads in (((1, 2), ()), ((2, 3), ()), ((67, 100), (4,)), ((1, 1), (4,)), ((199, 100), (4,)),
                              ((2, 1), ()), ((3, 1), ())):
            self.assert_same(harmful_roads(BRAESS, 0, 3, demand), roads)
        self.assert_same(harmful_roads(BRAESS, 1, 3, (1, 1)), ())
        self.assert_same(harmful_roads(PIGOU, 0, 1, (5, 1)), ())
        self.assert_same(harmful_roads((2, ((0, 1, 1, 1),)), 0, 1, (5, 1)), ())

    def test_several_harmful_roads(self):
        # Two middle roads in a row, either one of which harms, and a useless road ahead.
        net = (5, ((3, 0, 0, 0), (0, 1, 1, 0), (0, 2, 0, 1), (1, 3, 0, 1), (2, 3, 1, 0), (1, 4, 0, 0), (4, 2, 0, 0)))
        self.assert_same(harmful_roads(net, 0, 3, (1, 1)), (5, 6))
        self.assert_same(harmful_by_closing(net, 0, 3, (1, 1)), (5, 6))

    def test_by_closing(self):
        for net, trips, _ in samples(18, 100):
            self.assert_same(harmful_roads(net, *trips[0]), harmful_by_closing(net, *trips[0]))
        self.assert_same(harmful_roads(TWENTY, 0, 2, (3, 1)), ())
        self.assert_same(harmful_roads(SHARED, 0, 4, (3, 1)), harmful_by_closing(SHARED, 0, 4, (3, 1)))


class BestPartTest(Raising, unittest.TestCase):
    def test_worked_out_by_hand(self):
        # At a demand of 2/3 both parts cost 4/3, and the way over the middle has fewer roads.
        for demand, part in (((1, 2), ((1, 1), (0, 3, 4))), ((2, 3), ((4, 3), (0, 3, 4))),
                             ((67, 100), ((267, 200), (0, 1, 2, 3))), ((1, 1), ((3, 2), (0, 1, 2, 3))),
                             ((2, 1), ((2, 1), (0, 1, 2, 3))), ((3, 1), ((5, 2), (0, 1, 2, 3)))):
            self.assert_same(best_part(BRAESS, 0, 3, demand), part)
        self.assert_same(best_part(PIGOU, 0, 1, (5, 1)), ((1, 1), (1,)))
        self.assert_same(best_part(PIGOU, 0, 1, (1, 1)), ((1, 1), (0,)))
        self.assert_same(best_part(PIGOU, 0, 1, (1, 2)), ((1, 2), (0,)))
        self.assert_same(best_part(FLAT, 0, 1, (9, 1)), ((5, 1), (0,)))
        self.assert_same(best_part(FREE, 0, 1, (9, 1)), ((0, 1), (0,)))
        self.assert_same(best_part(CROSSED, 0, 2, (1, 1)), ((1, 1), (0, 1, 2, 3)))

    def test_the_smallest_tuple_of_the_fewest_roads(self):
        # Any of the ways alone costs 2; that by road 3 alone has the fewest roads.
        net = (3, ((0, 1, 0, 1), (1, 2, 0, 1), (1, 2, 0, 1), (0, 2, 0, 2), (0, 2, 0, 2)))
        self.assert_same(best_part(net, 0, 2, (1, 1)), ((2, 1), (3,)))
        net = (3, ((0, 1, 0, 1), (1, 2, 0, 1), (1, 2, 0, 1), (0, 1, 0, 1)))
        self.assert_same(best_part(net, 0, 2, (1, 1)), ((2, 1), (0, 1)))
        net = (3, ((1, 2, 0, 1), (0, 2, 0, 5), (1, 2, 0, 1), (0, 1, 0, 1), (0, 1, 0, 1)))
        self.assert_same(best_part(net, 0, 2, (1, 1)), ((2, 1), (0, 3)))

    def test_by_trying(self):
        tried = 0
        for net, trips, _ in samples(19, 120):
            if len({road for way in ways_of(net, *trips[0][:2]) for road in way}) <= 7:
                tried += 1
                self.assert_same(best_part(net, *trips[0]), best_by_trying(net, *trips[0]))
        self.assertGreater(tried, 60)

    def test_eight_roads_and_one_more(self):
        lanes = (2, tuple((0, 1, 1, base) for base in range(8)))
        self.assert_same(best_part(lanes, 0, 1, (6, 1)), ((3, 1), (0, 1, 2)))
        self.assert_same(best_part(lanes, 0, 1, (28, 1)), ((7, 1), (0, 1, 2, 3, 4, 5, 6)))
        self.assert_same(best_part(lanes, 0, 1, (36, 1)), ((8, 1), (0, 1, 2, 3, 4, 5, 6, 7)))
        # Two roads that lie on no way do not count.
        more = (3, (*lanes[1], (1, 0, 0, 0), (1, 2, 0, 0)))
        self.assert_same(best_part(more, 0, 1, (6, 1)), ((3, 1), (0, 1, 2)))
        nine = (2, (*lanes[1], (0, 1, 0, 1000)))
        self.assert_raises(TooMany, {"most": 8}, best_part, nine, 0, 1, (6, 1))
        self.assert_same(harmful_roads(nine, 0, 1, (6, 1)), ())
        self.assert_raises(TooMany, {"most": 8}, best_part, TWENTY, 0, 2, (6, 1))
        self.assert_raises(TooMany, {"most": 20}, best_part, TWENTY_ONE, 0, 2, (6, 1))


class ClosuresTest(Raising, unittest.TestCase):
    def test_worked_out_by_hand(self):
        self.assert_same(closures(PIGOU, ((0, 1, (2, 1)),)), ((2, 1), (4, 1)))
        self.assert_same(closures((2, ((0, 1, 1, 1),)), ((0, 1, (2, 1)),)), (None,))
        trips = ((0, 2, (3, 1)), (0, 1, (1, 1)))
        self.assert_same(closures(SMALL, trips), (None, (51, 1), (18, 1)))
        self.assert_same(closures(SMALL, trips[:1]), ((15, 1), (42, 1), (15, 1)))

    def test_by_closing(self):
        for net, trips, _ in samples(20, 80):
            self.assert_same(closures(net, trips), totals_by_closing(net, trips))
        self.assert_same(closures(SHARED, SHARED_TRIPS), totals_by_closing(SHARED, SHARED_TRIPS))
        trips = ((0, 2, (5, 2)), (1, 2, (1, 3)))
        self.assert_same(closures(TWENTY, trips), totals_by_closing(TWENTY, trips))

    def test_errors(self):
        self.assert_raises(BadNet, {"index": None}, closures, None, None)
        self.assert_raises(BadNet, {"index": 1}, closures, (2, ((0, 1, 0, 0), "x")), None)
        self.assert_raises(BadTrips, {"index": None}, closures, BRAESS, [])
        self.assert_raises(BadTrips, {"index": 0}, closures, BRAESS, ((3, 0, (1, 1)),))
        self.assert_raises(BadTrips, {"index": 1}, closures, BRAESS, ((0, 3, (1, 1)), (0, 3, (2, 1))))
        self.assert_raises(BadTrips, {"index": 1}, closures, TWENTY_ONE, ((0, 2, (1, 1)), (0, 2, (2, 1))))
        self.assert_raises(TooMany, {"most": 20}, closures, TWENTY_ONE, ((0, 2, (1, 1)),))
        self.assert_raises(TooMany, {"most": 20}, closures, TWENTY_ONE, ((0, 1, (1, 1)), (0, 2, (1, 1))))
        self.assertEqual(len(closures(TWENTY_ONE, ((0, 1, (1, 1)),))), 10)


class WrongTest(Raising, unittest.TestCase):
    def test_nodes(self):
        for function in PAIRS:
            for start, goal in ((0, 0), (3, 3), (0, 4), (4, 0), (-1, 3), (0, -1), (False, 3), (0, True), ("0", 3),
                                (None, 3), (0, (3,)), ([], 3), (0, {})):
                self.assert_raises(BadNode, {}, function, BRAESS, start, goal, (1, 1))
                self.assert_raises(BadNode, {}, function, BRAESS, start, goal, "x")
                self.assert_raises(BadNode, {}, function, TWENTY_ONE, start, start, (1, 1))

    def test_no_way(self):
        for function in PAIRS:
            self.assert_raises(NoWay, {}, function, BRAESS, 3, 0, (1, 1))
            self.assert_raises(NoWay, {}, function, BRAESS, 2, 1, (1, 1))
            self.assert_raises(NoWay, {}, function, TWENTY_ONE, 2, 0, (1, 1))
            # The nodes stand further left than the demand.
            self.assert_raises(NoWay, {}, function, BRAESS, 3, 0, "x")

    def test_demands(self):
        for function in PAIRS:
            for demand in (*INTEGER_WRONGS, (0, 1), (1001, 1), (1, 101), (-1, 1), (2, 2), (1, 0), (1, -1), (1,),
                           [1, 1], (1, 1, 1), (True, 1), (1, True), ("1", 1)):
                self.assert_raises(BadDemand, {}, function, BRAESS, 0, 3, demand)
                self.assert_raises(BadDemand, {}, function, TWENTY_ONE, 0, 2, demand)
            for demand in ((1000, 1), (1, 100)):
                function(BRAESS, 0, 3, demand)

    def test_nets_and_bounds(self):
        for function in PAIRS:
            self.assert_raises(BadNet, {"index": None}, function, [*BRAESS], 0, 0, "x")
            self.assert_raises(BadNet, {"index": 0}, function, (2, ((0, 2, 0, 0),)), 0, 1, (1, 1))
            self.assert_raises(TooMany, {"most": 20}, function, TWENTY_ONE, 0, 2, (1, 1))
            self.assertEqual(type(function(TWENTY_ONE, 0, 1, reduced(3, 2))), tuple)


if __name__ == "__main__":
    unittest.main()
