"""Point 3: trips, routings, and what they do to the roads."""

import unittest

from tests.support import (BRAESS, CROSSED, INTEGER_WRONGS, PIGOU, Raising, SHARED, SHARED_TRIPS, SMALL, TWENTY,
                           TWENTY_ONE, flows_of, is_ratio, neighbours, number, potential_of, ratio, samples,
                           times_of, total_of, ways_of)
from tollroads.errors import BadNet, BadRouting, BadTrips, TooMany
from tollroads.routings import flows, potential, times, total

ALL = (flows, times, total, potential)
ROUTING = ((((0, 2), (1, 1)), ((1,), (1, 2))),)
TRIPS = ((0, 2, (3, 2)),)
SHARED_ROUTING = ((((0, 2, 3), (3, 2)), ((0, 6), (1, 2)), ((4,), (1, 1))),
                  (((1, 2), (7, 2)),),
                  (((2, 3), (1, 3)), ((6,), (4, 3))))


def even_routing(net, trips):
    """A routing that uses all ways alike."""
    parts = []
    for start, goal, demand in trips:
        known = ways_of(net, start, goal)
        parts.append(tuple((way, ratio(number(demand) / len(known))) for way in known))
    return tuple(parts)


class ValuesTest(Raising, unittest.TestCase):
    def test_roads_that_trips_share(self):
        self.assert_same(flows(SHARED, SHARED_TRIPS, SHARED_ROUTING),
                         ((2, 1), (7, 2), (16, 3), (11, 6), (1, 1), (0, 1), (11, 6)))
        self.assert_same(times(SHARED, SHARED_TRIPS, SHARED_ROUTING),
                         ((3, 1), (7, 1), (17, 1), (11, 6), (30, 1), (25, 1), (109, 6)))
        self.assert_same(total(SHARED, SHARED_TRIPS, SHARED_ROUTING), (1127, 6))
        self.assert_same(potential(SHARED, SHARED_TRIPS, SHARED_ROUTING), (725, 6))

    def test_half_slopes(self):
        self.assert_same(potential((2, ((0, 1, 3, 2),)), ((0, 1, (1, 1)),), ((((0,), (1, 1)),),)), (7, 2))
        self.assert_same(total((2, ((0, 1, 3, 2),)), ((0, 1, (1, 1)),), ((((0,), (1, 1)),),)), (5, 1))
        self.assert_same(potential((2, ((0, 1, 3, 2),)), ((0, 1, (1, 3)),), ((((0,), (1, 3)),),)), (5, 6))

    def test_roads_without_flow_keep_their_base(self):
        routing = ((((0, 2), (1, 1)),),)
        trips = ((0, 3, (1, 1)),)
        self.assert_same(flows(BRAESS, trips, routing), ((1, 1), (0, 1), (1, 1), (0, 1), (0, 1)))
        self.assert_same(times(BRAESS, trips, routing), ((1, 1), (1, 1), (1, 1), (0, 1), (0, 1)))

    def test_nothing_costs_anything(self):
        net = (2, ((0, 1, 0, 0), (1, 0, 5, 5)))
        routing = ((((0,), (1, 1)),),)
        trips = ((0, 1, (1, 1)),)
        self.assert_same([function(net, trips, routing) for function in ALL],
                         [((1, 1), (0, 1)), ((0, 1), (5, 1)), (0, 1), (0, 1)])

    def test_against_own_reckoning(self):
        for net, trips, _ in samples(3, 80):
            routing = even_routing(net, trips)
            for near in (routing, *neighbours(net, trips, routing, number((1, 7)))[:3]):
                self.assert_same(flows(net, trips, near), tuple(map(ratio, flows_of(net, near))))
                self.assert_same(times(net, trips, near), tuple(map(ratio, times_of(net, near))))
                self.assert_same(total(net, trips, near), ratio(total_of(net, near)))
                self.assert_same(potential(net, trips, near), ratio(potential_of(net, near)))
                self.assertTrue(all(map(is_ratio, times(net, trips, near))))

    def test_twenty_ways_and_one_more(self):
        trips = ((0, 2, (7, 3)),)
        routing = even_routing(TWENTY, trips)
        self.assert_same(total(TWENTY, trips, routing), ratio(total_of(TWENTY, routing)))
        for function in ALL:
            many = even_routing(TWENTY_ONE, trips)
            self.assert_raises(TooMany, {"most": 20}, function, TWENTY_ONE, trips, many)
            self.assert_raises(BadRouting, {}, function, TWENTY_ONE, trips, many[:0])
            self.assert_raises(BadTrips, {"index": 1}, function, TWENTY_ONE, (*trips, (0, 2, (1, 1))), many)
            self.assert_raises(TooMany, {"most": 20}, function, TWENTY_ONE, ((0, 1, (1, 1)), *trips),
                               even_routing(TWENTY_ONE, ((0, 1, (1, 1)), *trips)))
            function(TWENTY_ONE, ((0, 1, (1, 1)),), ((((0,), (1, 1)),),))


class TripsTest(Raising, unittest.TestCase):
    def refuse(self, index, trips, net=SMALL):
        for function in ALL:
            self.assert_raises(BadTrips, {"index": index}, function, net, trips, ())

    def test_demands(self):
        for demand in ((1000, 1), (1, 100), (999, 100), (1, 1)):
            self.assert_same(flows(PIGOU, ((0, 1, demand),), ((((0,), demand),),)), (demand, (0, 1)))
        for demand in ((1001, 1), (1, 101), (1001, 101), (0, 1), (-1, 1), (2, 2), (2, 4), (1, 0), (1, -1), (-1, -1),
                       (0, 0), (1,), (1, 1, 1), [1, 1], 1, "1", None, True, (True, 1), (1, True), ("1", "1"), {}, ()):
            self.refuse(0, ((0, 2, demand),))
            self.refuse(1, ((0, 1, (1, 1)), (0, 2, demand)))

    def test_how_many(self):
        trips = ((0, 1, (1, 1)), (0, 2, (1, 1)), (1, 2, (1, 1)))
        routing = ((((0,), (1, 1)),), (((1,), (1, 1)),), (((2,), (1, 1)),))
        self.assert_same(flows(SMALL, trips, routing), ((1, 1), (1, 1), (1, 1)))
        self.refuse(None, ())
        self.refuse(None, (*trips, (1, 0, (1, 1))))
        self.refuse(None, ("x",) * 4)
        self.refuse(0, ("x",) * 3)
        for value in (*INTEGER_WRONGS, [*trips], {0: trips[0]}):
            if value != (0,):
                self.refuse(None, value)

    def test_kinds_of_a_trip(self):
        for trip in (*INTEGER_WRONGS, 0, 2, [0, 2, (1, 1)], (0, 2), (0, 2, (1, 1), 0), (0, 0, (1, 1)),
                     (0, 3, (1, 1)), (3, 0, (1, 1)), (-1, 2, (1, 1)), (False, 2, (1, 1)), (0, True, (1, 1)),
                     ("0", 2, (1, 1)), (0, None, (1, 1)), ((0,), 2, (1, 1)), (0, [2], (1, 1))):
            self.refuse(0, (trip,))
            self.refuse(1, ((0, 1, (1, 1)), trip, (0, 2, (1, 1))))

    def test_no_way(self):
        self.refuse(0, ((2, 0, (1, 1)),))
        self.refuse(1, ((0, 2, (1, 1)), (1, 0, (1, 1))))

    def test_repetitions(self):
        self.refuse(1, ((0, 2, (1, 1)), (0, 2, (1, 1))))
        self.refuse(1, ((0, 2, (1, 1)), (0, 2, (5, 3))))
        self.refuse(2, ((0, 2, (1, 1)), (0, 1, (1, 1)), (0, 2, (5, 3))))
        self.refuse(2, ((0, 1, (1, 1)), (0, 2, (1, 1)), (0, 2, (5, 3))))
        both = (2, ((0, 1, 1, 1), (1, 0, 1, 1)))
        back = ((0, 1, (1, 1)), (1, 0, (2, 1)))
        self.assert_same(flows(both, back, ((((0,), (1, 1)),), (((1,), (2, 1)),))), ((1, 1), (2, 1)))

    def test_the_first_bad_trip(self):
        self.refuse(0, ((2, 0, (1, 1)), (2, 0, (1, 1))))
        self.refuse(1, ((0, 2, (1, 1)), (0, 2, (1, 1)), "x"))
        self.refuse(1, ((0, 2, (1, 1)), "x", (0, 2, (1, 1))))


class RoutingTest(Raising, unittest.TestCase):
    def refuse(self, routing, trips=TRIPS, net=SMALL):
        for function in ALL:
            self.assert_raises(BadRouting, {}, function, net, trips, routing)

    def test_forms(self):
        self.assert_same(flows(SMALL, TRIPS, ROUTING), ((1, 1), (1, 2), (1, 1)))
        for routing in (*INTEGER_WRONGS, [*ROUTING], ([*ROUTING[0]],), ROUTING[0], ROUTING * 2, (*ROUTING, ()),
                        ((),), (None,), ({(0, 2): (1, 1)},), "0 2", (dict(ROUTING[0]),)):
            self.refuse(routing)

    def test_order_of_ways(self):
        self.refuse((ROUTING[0][::-1],))
        self.refuse(((((0, 2), (1, 1)), ((0, 2), (1, 2))),))
        self.refuse(((((1,), (1, 1)), ((1,), (1, 2))),))

    def test_ways(self):
        for way in ((), (0,), (2,), (2, 0), (0, 2, 1), (1, 1), (3,), (-1,), (True,), ("1",), [1], 1, "1", None, {},
                    (1.5,), ((1,),), ([],), ({},), (0, None)):
            self.refuse(((((0, 2), (1, 1)), (way, (1, 2))),))
            self.refuse((((way, (3, 2)),),))

    def test_a_way_of_another_trip(self):
        trips = ((0, 2, (1, 1)), (0, 1, (1, 1)))
        self.assertEqual(len(flows(SMALL, trips, ((((1,), (1, 1)),), (((0,), (1, 1)),)))), 3)
        self.refuse(((((0,), (1, 1)),), (((1,), (1, 1)),)), trips)
        self.refuse(((((1,), (1, 1)),), (((1,), (1, 1)),)), trips)
        self.refuse(((((1,), (1, 1)),),), trips)

    def test_amounts(self):
        for amount in ((0, 1), (-1, 2), (1, 3), (2, 3), (2, 4), (-1, -2), (1, 0), (1, -2), (0, 0), (1,), (1, 2, 1),
                       [1, 2], (True, 2), (1, "2"), 1, 0, "1/2", None, True, False, {}, ()):
            self.refuse(((((0, 2), (1, 1)), ((1,), amount)),))
        self.refuse(((((0, 2), (2, 1)), ((1,), (-1, 2))),))
        self.refuse(((((0, 2), (3, 2)), ((1,), (0, 1))),))
        self.refuse(((((0, 2), (3, 2)), ((1,), (1, 1))),))
        self.refuse(((((0, 2), (True, True)), ((1,), (1, 2))),))

    def test_large_numbers(self):
        bottom = 10 ** 40 + 1
        routing = ((((0, 2), (bottom + 1, bottom)), ((1,), (bottom - 2, 2 * bottom))),)
        self.assert_same(flows(SMALL, TRIPS, routing)[1], (bottom - 2, 2 * bottom))
        self.refuse(((((0, 2), (bottom + 1, bottom)), ((1,), (bottom - 4, 2 * bottom))),))

    def test_sums_of_each_part(self):
        trips = ((0, 2, (1, 1)), (0, 1, (2, 1)))
        self.refuse(((((1,), (2, 1)),), (((0,), (1, 1)),)), trips)

    def test_pairs(self):
        for pair in (((1,), (1, 2), 0), ((1,),), [(1,), (1, 2)], ((1, 2), (1,)), (1, (1, 2)), "1 1", None, 0, ()):
            self.refuse(((((0, 2), (1, 1)), pair),))

    def test_any_routing_is_taken(self):
        # A routing need not be at rest.
        routing = ((((0, 2), (1, 3)), ((1, 3), (5, 3))),)
        self.assert_same(flows(CROSSED, ((0, 2, (2, 1)),), routing), ((1, 3), (5, 3), (1, 3), (5, 3)))


class OrderTest(Raising, unittest.TestCase):
    def test_the_leftmost_error(self):
        for function in ALL:
            self.assert_raises(BadNet, {"index": 0}, function, (2, ("x",)), "x", "x")
            self.assert_raises(BadNet, {"index": None}, function, "x", TRIPS, ROUTING)
            self.assert_raises(BadTrips, {"index": None}, function, SMALL, "x", "x")
            self.assert_raises(BadTrips, {"index": 0}, function, SMALL, ("x",), ROUTING)


if __name__ == "__main__":
    unittest.main()
