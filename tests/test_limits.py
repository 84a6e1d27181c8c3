"""Point 17: rests that keep to limits, with waits before the full roads."""

import random
import unittest
from fractions import Fraction

from tests.linear import most_routed
from tests.support import (BRAESS, CROSSED, FLAT, FREE, INTEGER_WRONGS, PIGOU, Raising, SHARED, SHARED_TRIPS, SMALL,
                           TWENTY, TWENTY_ONE, at_rest, costs_with, fan, flows_of, is_ratio, is_routing, mixtures,
                           neighbours, number, ratio, reduced, samples, uses_least, ways_of, zeros)
from tollroads.errors import BadLimits, BadNet, BadTrips, TooMany
from tollroads.limits import limited_rest, shows_limited
from tollroads.rests import rest

BOTH = (limited_rest, shows_limited)
LANES = (2, ((0, 1, 1, 0), (0, 1, 0, 4)))
SIX = ((0, 1, (6, 1)),)
SIXTIETH = Fraction(1, 60)


def call(function, *arguments):
    return function(*arguments, None) if function is shows_limited else function(*arguments)


def fits(net, trips, limits):
    """Whether some routing keeps to the limits."""
    return most_routed(net, trips, limits) == sum(number(trip[2]) for trip in trips)


def is_limited(net, trips, limits, value):
    """Whether a value is a pair of a routing and waits."""
    if not (isinstance(value, tuple) and len(value) == 2 and is_routing(net, trips, value[0])):
        return False
    routing, waits = value
    if not (isinstance(waits, tuple) and len(waits) == len(net[1]) and all(is_ratio(wait) for wait in waits)):
        return False
    for flow, limit, wait in zip(flows_of(net, routing), limits, waits):
        if wait[0] < 0 or limit is not None and flow > number(limit):
            return False
        if wait[0] > 0 and (limit is None or flow != number(limit)):
            return False
    return uses_least(net, trips, routing, costs_with(net, routing, waits))


def bounded(value):
    """The nearest ratio that may be a limit, with a bottom of 12."""
    return ratio(min(Fraction(1000, 12), max(Fraction(1, 12), Fraction(round(value * 12), 12))))


def some_limits(chance, net, trips):
    """Limits near the flows of a rest or of another routing, so that many of them bind."""
    part = tuple((tuple((way, ratio(number(trip[2]) / len(known))) for way in known))
                 for trip in trips for known in [ways_of(net, *trip[:2])])
    found = flows_of(net, chance.choice((part, rest(net, trips, zeros(net)))))
    tight = chance.choice((0, 1, 1, 3))
    return tuple(bounded(flow * Fraction(chance.randint(9 - tight, 13), 10)) if chance.random() < 0.7 else None
                 for flow in found)


def whole_trips(chance, trips):
    """The trips with demands whose bottoms fit to those of `bounded`."""
    return tuple((*trip[:2], reduced(chance.randint(1, 40), chance.choice((1, 2, 3, 4)))) for trip in trips)


def cases(seed, many):
    """So many triples (net, trips, limits)."""
    chance = random.Random(seed)
    found = []
    for net, trips in [row[:2] for row in samples(seed, many)] + mixtures(seed, many // 3):
        trips = whole_trips(chance, trips)
        found.append((net, trips, some_limits(chance, net, trips)))
    return found


class LimitedTest(Raising, unittest.TestCase):
    def check(self, net, trips, limits):
        """Check an answer; return which of nothing, no waits and waits it is."""
        value = limited_rest(net, trips, limits)
        if value is None:
            self.assertFalse(fits(net, trips, limits), (net, trips, limits))
        else:
            self.assertTrue(is_limited(net, trips, limits, value), (net, trips, limits, value))
        self.assertIs(shows_limited(net, trips, limits, value), True)
        self.assertIs(shows_limited(net, trips, limits, None), value is None)
        return value and any(wait != (0, 1) for wait in value[1])

    def test_many_cases(self):
        found = [self.check(*case) for case in cases(95, 240)]
        for kind in (None, False, True):
            self.assertGreater(found.count(kind), 40)

    def test_limits_that_do_not_bind(self):
        for net, trips, _ in samples(96, 60):
            for limits in ((None,) * len(net[1]), ((1000, 1),) * len(net[1])):
                value = limited_rest(net, trips, limits)
                self.assertTrue(at_rest(net, trips, zeros(net), value[0]))
                self.assert_same(value[1], zeros(net))

    def test_worked_out_by_hand(self):
        self.assert_same(limited_rest(LANES, SIX, ((1, 1), None)),
                         (((((0,), (1, 1)), ((1,), (5, 1))),), ((3, 1), (0, 1))))
        self.assertIs(limited_rest(LANES, SIX, ((1, 1), (2, 1))), None)
        self.assert_same(limited_rest(LANES, SIX, (None, (1, 1))),
                         (((((0,), (5, 1)), ((1,), (1, 1))),), ((0, 1), (1, 1))))
        # Both roads are full: either of them, but not both, can do without a wait.
        value = limited_rest(LANES, SIX, ((1, 1), (5, 1)))
        self.assert_same(value[0], ((((0,), (1, 1)), ((1,), (5, 1))),))
        self.assertEqual(number(value[1][0]) - number(value[1][1]), 3)
        # The flow at rest is just the limit.
        self.assert_same(limited_rest(LANES, SIX, ((4, 1), (2, 1)))[0], ((((0,), (4, 1)), ((1,), (2, 1))),))
        self.assert_same(limited_rest(LANES, SIX, ((4, 1), None)),
                         (((((0,), (4, 1)), ((1,), (2, 1))),), ((0, 1), (0, 1))))
        self.assert_same(limited_rest(BRAESS, ((0, 3, (1, 1)),), (None, None, None, None, (1, 3))),
                         (((((0, 2), (1, 3)), ((0, 4, 3), (1, 3)), ((1, 3), (1, 3))),),
                          ((0, 1), (0, 1), (0, 1), (0, 1), (1, 3))))

    def test_a_single_road(self):
        net, trips = (2, ((0, 1, 3, 4),)), ((0, 1, (7, 2)),)
        self.assert_same(limited_rest(net, trips, (None,)), (((((0,), (7, 2)),),), ((0, 1),)))
        self.assert_same(limited_rest(net, trips, ((4, 1),)), (((((0,), (7, 2)),),), ((0, 1),)))
        self.assertIs(limited_rest(net, trips, ((349, 100),)), None)
        # Just full: any wait is right.
        self.assert_same(limited_rest(net, trips, ((7, 2),))[0], ((((0,), (7, 2)),),))
        for wait in ((0, 1), (1, 3), (10 ** 30, 7)):
            self.assertIs(shows_limited(net, trips, ((7, 2),), (((((0,), (7, 2)),),), (wait,))), True)
        self.assertIs(shows_limited(net, trips, ((7, 2),), (((((0,), (7, 2)),),), ((-1, 3),))), False)

    def test_roads_in_a_row_that_are_full_together(self):
        net = (4, ((0, 1, 1, 0), (1, 2, 0, 0), (2, 3, 2, 0), (0, 3, 0, 50)))
        for limits in (((2, 1), (2, 1), (2, 1), None), (None, (2, 1), (2, 1), None), ((2, 1), (5, 1), (2, 1), (3, 1))):
            value = limited_rest(net, ((0, 3, (5, 1)),), limits)
            self.assertTrue(is_limited(net, ((0, 3, (5, 1)),), limits, value))
            self.assertEqual(sum(number(wait) for wait in value[1][:3]) - number(value[1][3]), 44)
        self.assertIs(limited_rest(net, ((0, 3, (5, 1)),), ((2, 1), (5, 1), (2, 1), (299, 100))), None)

    def test_limits_that_are_met_just_so(self):
        # The limits of the roads around each node are together just what has to go through.
        for net, trips, limits in ((CROSSED, ((0, 2, (3, 1)),), ((1, 1), (2, 1), (3, 2), (3, 2))),
                                   (CROSSED, ((0, 2, (1, 1)), (0, 1, (2, 1))), ((1, 1), (2, 1), (1, 2), (1, 2))),
                                   (fan(4, 5), ((0, 2, (8, 1)),), ((2, 1),) * 4 + ((8, 5),) * 5),
                                   (SMALL, ((0, 2, (3, 1)), (1, 2, (1, 2))), ((1, 1), (2, 1), (3, 2)))):
            self.check(net, trips, limits)
            self.assertIsNot(limited_rest(net, trips, limits), None)
            for road, limit in enumerate(limits):
                less = (*limits[:road], ratio(number(limit) - Fraction(1, 100)), *limits[road + 1:])
                self.check(net, trips, less)

    def test_trips_that_share_full_roads(self):
        limits = (None, None, (4, 1), (3, 1), None, None, (5, 2))
        self.assertIs(self.check(SHARED, SHARED_TRIPS, limits), True)
        self.check(SHARED, SHARED_TRIPS, (None, None, (1, 100), (1, 100), None, None, (1, 100)))
        self.check(SHARED, SHARED_TRIPS, ((5, 1),) * 7)

    def test_known_nets(self):
        for top in range(1, 9):
            limit = reduced(top, 2)
            for net, ends in ((BRAESS, (0, 3)), (PIGOU, (0, 1)), (FLAT, (0, 1)), (FREE, (0, 1)), (CROSSED, (0, 2)),
                              (TWENTY, (0, 2)), (LANES, (0, 1))):
                for limits in ((limit,) * len(net[1]), (limit, *(None,) * (len(net[1]) - 1))):
                    self.check(net, ((*ends, (4, 1)),), limits)


class ShowsLimitedTest(Raising, unittest.TestCase):
    def test_near_routings(self):
        for net, trips, limits in cases(97, 60):
            value = limited_rest(net, trips, limits)
            if value is not None:
                for near in neighbours(net, trips, value[0], SIXTIETH):
                    wanted = is_limited(net, trips, limits, (near, value[1]))
                    self.assertIs(shows_limited(net, trips, limits, (near, value[1])), wanted)

    def test_near_waits(self):
        for net, trips, limits in cases(98, 60):
            value = limited_rest(net, trips, limits)
            if value is not None:
                for road, wait in enumerate(value[1]):
                    for more in (SIXTIETH, -SIXTIETH, -number(wait), 2 * number(wait)):
                        waits = (*value[1][:road], ratio(number(wait) + more), *value[1][road + 1:])
                        wanted = is_limited(net, trips, limits, (value[0], waits))
                        self.assertIs(shows_limited(net, trips, limits, (value[0], waits)), wanted)

    def test_other_right_values(self):
        part = (((0,), (1, 1)), ((1,), (5, 1)))
        for top in range(0, 8):
            value = ((part,), (reduced(6 + top, 2), reduced(top, 2)))
            self.assertIs(shows_limited(LANES, SIX, ((1, 1), (5, 1)), value), True)
            self.assertIs(shows_limited(LANES, SIX, ((1, 1), None), value), top == 0)
            self.assertIs(shows_limited(LANES, SIX, ((1, 1), (6, 1)), value), top == 0)
            self.assertIs(shows_limited(LANES, SIX, (None, (5, 1)), value), False)
            self.assertIs(shows_limited(LANES, SIX, ((1, 1), (499, 100)), value), False)
            self.assertIs(shows_limited(LANES, SIX, ((99, 100), (5, 1)), value), False)

    def test_limits_that_are_not_kept_to(self):
        at_ease = (((((0,), (4, 1)), ((1,), (2, 1))),), ((0, 1), (0, 1)))
        for limits, right in (((None, None), True), (((4, 1), (2, 1)), True), (((4, 1), None), True),
                              (((399, 100), None), False), ((None, (199, 100)), False), (((1, 1), (2, 1)), False)):
            self.assertIs(shows_limited(LANES, SIX, limits, at_ease), right)

    def test_values_of_all_kinds(self):
        limits, right = ((1, 1), None), (((((0,), (1, 1)), ((1,), (5, 1))),), ((3, 1), (0, 1)))
        self.assertIs(shows_limited(LANES, SIX, limits, right), True)
        routing, waits = right
        for value in (*INTEGER_WRONGS, [*right], right[:1], (*right, 0), right[::-1], {0: right}, (routing, [*waits]),
                      (routing, waits[:1]), (routing, (*waits, (0, 1))), (routing, ((3, 1), None)),
                      (routing, ((6, 2), (0, 1))), (routing, ((3, True), (0, 1))), (routing, ((3, 1), (False, 1))),
                      (routing, (3, 0)), (routing, ((3, 1), 0)), (routing, ([3, 1], (0, 1))), (routing, None),
                      (routing[0], waits), ([*routing], waits), (None, waits), ((routing[0][::-1],), waits),
                      (routing, waits[::-1]), (((((0,), (1, 1)), ((True,), (5, 1))),), waits)):
            self.assertIs(shows_limited(LANES, SIX, limits, value), False, value)
            self.assertIs(shows_limited(LANES, SIX, ((1, 1), (2, 1)), value), value is None, value)


class WrongTest(Raising, unittest.TestCase):
    def test_limits(self):
        for limits in (*INTEGER_WRONGS, (None,), (None,) * 3, [None, None], {0: None, 1: None}, "12", ((1, 1),) * 3, *[
                (None, limit) for limit in ((0, 1), (-1, 1), (1001, 1), (1, 101), (2, 2), (1, 0), (1, -1), 0, 1, True,
                                            False, "1", (True, 1), (1, True), [1, 1], (1,), (1, 1, 1), (), {},
                                            (None, 1))]):
            for function in BOTH:
                self.assert_raises(BadLimits, {}, call, function, LANES, SIX, limits)

    def test_bounds_of_limits(self):
        for limit in ((1000, 1), (1, 100), (999, 100)):
            self.assertTrue(is_limited(LANES, SIX, (limit, None), limited_rest(LANES, SIX, (limit, None))))

    def test_twenty_ways_and_one_more(self):
        trips = ((0, 2, (1, 1)),)
        for function in BOTH:
            call(function, TWENTY, trips, ((1, 3), *(None,) * 8))
            call(function, TWENTY_ONE, ((0, 1, (1, 1)),), (None,) * 10)
            for more in (trips, ((0, 1, (1, 1)), *trips)):
                self.assert_raises(TooMany, {"most": 20}, call, function, TWENTY_ONE, more, (None,) * 10)
                self.assert_raises(BadLimits, {}, call, function, TWENTY_ONE, more, (None,) * 9)
            self.assert_raises(BadTrips, {"index": 1}, call, function, TWENTY_ONE, trips * 2, (None,) * 10)

    def test_the_leftmost_error(self):
        for function in BOTH:
            self.assert_raises(BadNet, {"index": None}, call, function, "x", "x", "x")
            self.assert_raises(BadNet, {"index": 1}, call, function, (2, ((0, 1, 0, 0), 5)), (), "x")
            self.assert_raises(BadTrips, {"index": None}, call, function, LANES, [*SIX], "x")
            self.assert_raises(BadTrips, {"index": 0}, call, function, LANES, ((1, 0, (1, 1)),), "x")
            self.assert_raises(BadTrips, {"index": 1}, call, function, LANES, SIX * 2, None)


if __name__ == "__main__":
    unittest.main()
