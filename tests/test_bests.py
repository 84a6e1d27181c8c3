"""Point 6: best routings, what selfishness costs, and the tolls of the margins."""

import unittest
from fractions import Fraction

from tests.support import (BRAESS, CROSSED, FLAT, FREE, INTEGER_WRONGS, PIGOU, Raising, SHARED, SHARED_TRIPS, SMALL,
                           TWENTY, TWENTY_ONE, at_rest, flows_of, is_best, is_routing, mixtures, neighbours, number,
                           ratio, samples, total_of, zeros)
from tollroads.bests import best, best_total, margin_tolls, selfish_price, shows_best
from tollroads.errors import BadNet, BadTrips, TooMany
from tollroads.rests import rest_total

PLAIN = (best, best_total, selfish_price, margin_tolls)
ONE = ((0, 3, (1, 1)),)


class BestTest(Raising, unittest.TestCase):
    def check(self, net, trips):
        routing = best(net, trips)
        self.assertTrue(is_best(net, trips, routing), (net, trips, routing))
        self.assertIs(shows_best(net, trips, routing), True)
        least = total_of(net, routing)
        self.assert_same(best_total(net, trips), ratio(least))
        tolls = tuple(ratio(road[2] * flow) for road, flow in zip(net[1], flows_of(net, routing)))
        self.assert_same(margin_tolls(net, trips), tolls)
        self.assertTrue(at_rest(net, trips, tolls, routing))
        price = selfish_price(net, trips)
        if least == 0:
            self.assertIsNone(price)
        else:
            self.assert_same(price, ratio(number(rest_total(net, trips, zeros(net))) / least))
            self.assertTrue(1 <= number(price) <= Fraction(4, 3))

    def test_many_cases(self):
        for net, trips, _ in samples(8, 150):
            self.check(net, trips)

    def test_ways_that_can_be_mixed(self):
        for net, trips in mixtures(32, 100):
            self.check(net, trips)

    def test_known_nets(self):
        for net, trips in ((BRAESS, ONE), (PIGOU, ((0, 1, (5, 2)),)), (FLAT, ((0, 1, (4, 1)),)),
                           (FREE, ((0, 1, (1, 100)),)), (SHARED, SHARED_TRIPS), (SHARED, SHARED_TRIPS[:2]),
                           (CROSSED, ((0, 2, (3, 1)), (0, 1, (1, 3)))), (TWENTY, ((0, 2, (1000, 1)),)),
                           (TWENTY, ((0, 2, (7, 3)), (0, 1, (1, 2)), (1, 2, (9, 1))))):
            self.check(net, trips)

    def test_worked_out_by_hand(self):
        self.assert_same(best(PIGOU, ((0, 1, (1, 1)),)), ((((0,), (1, 2)), ((1,), (1, 2))),))
        self.assert_same(best_total(PIGOU, ((0, 1, (1, 1)),)), (3, 4))
        self.assert_same(selfish_price(PIGOU, ((0, 1, (1, 1)),)), (4, 3))
        self.assert_same(margin_tolls(PIGOU, ((0, 1, (1, 1)),)), ((1, 2), (0, 1)))
        self.assert_same(best(PIGOU, ((0, 1, (1, 2)),)), ((((0,), (1, 2)),),))
        self.assert_same(selfish_price(PIGOU, ((0, 1, (1, 2)),)), (1, 1))
        self.assert_same(best_total(PIGOU, ((0, 1, (3, 1)),)), (11, 4))
        self.assert_same(selfish_price(PIGOU, ((0, 1, (3, 1)),)), (12, 11))
        self.assert_same(best_total(BRAESS, ((0, 3, (1, 2)),)), (1, 2))
        self.assert_same(best(BRAESS, ((0, 3, (1, 2)),)), ((((0, 4, 3), (1, 2)),),))
        self.assert_same(best_total(BRAESS, ((0, 3, (2, 1)),)), (4, 1))

    def test_a_least_total_of_0(self):
        self.assertIsNone(selfish_price(FREE, ((0, 1, (7, 2)),)))
        self.assert_same(best_total(FREE, ((0, 1, (7, 2)),)), (0, 1))
        self.assert_same(margin_tolls(FREE, ((0, 1, (7, 2)),)), ((0, 1), (0, 1)))
        both = (2, (*FREE[1], (1, 0, 1, 0)))
        self.assert_same(selfish_price(both, ((0, 1, (1, 1)), (1, 0, (1, 1)))), (1, 1))

    def test_twice_the_demand(self):
        for net, trips, _ in samples(9, 40):
            double = tuple((start, goal, ratio(2 * number(demand))) for start, goal, demand in trips)
            self.assertTrue(number(rest_total(net, trips, zeros(net))) <= number(best_total(net, double)))


class ShowsBestTest(Raising, unittest.TestCase):
    def test_neighbours(self):
        for net, trips, _ in samples(10, 60):
            routing = best(net, trips)
            for near in neighbours(net, trips, routing, Fraction(1, 40)):
                self.assertTrue(is_routing(net, trips, near))
                wanted = total_of(net, near) == total_of(net, routing)
                self.assertIs(shows_best(net, trips, near), wanted)

    def test_a_rest_is_not_always_best(self):
        self.assertIs(shows_best(BRAESS, ONE, ((((0, 4, 3), (1, 1)),),)), False)
        self.assertIs(shows_best(BRAESS, ONE, ((((0, 2), (1, 2)), ((1, 3), (1, 2))),)), True)
        self.assertIs(shows_best(PIGOU, ((0, 1, (1, 1)),), ((((0,), (1, 1)),),)), False)

    def test_all_best_ones_are_right(self):
        for top in range(1, 40):
            value = ((((0,), ratio(Fraction(top, 10))), ((1,), ratio(4 - Fraction(top, 10)))),)
            self.assertIs(shows_best(FLAT, ((0, 1, (4, 1)),), value), True)
        for value in (((((0, 2), (1, 1)), ((1, 3), (1, 1))),), ((((0, 3), (1, 1)), ((1, 2), (1, 1))),),
                      (tuple((way, (1, 2)) for way in ((0, 2), (0, 3), (1, 2), (1, 3))),)):
            self.assertIs(shows_best(CROSSED, ((0, 2, (2, 1)),), value), True)
        self.assertIs(shows_best(CROSSED, ((0, 2, (2, 1)),), ((((0, 2), (1, 1)), ((1, 2), (1, 1))),)), False)

    def test_values_of_all_kinds(self):
        right = ((((0, 2), (1, 2)), ((1, 3), (1, 2))),)
        for value in (*INTEGER_WRONGS, [*right], right[0], (*right, ()), (right[0][::-1],), {0: right[0]}, (),
                      ((),), ((((0, 2), (1, 2)),),), ((((0, 2), (2, 4)), ((1, 3), (1, 2))),),
                      ((((0, 2), (True, 2)), ((1, 3), (1, 2))),), ((((False, 2), (1, 2)), ((1, 3), (1, 2))),),
                      ((((0, 2), (1, 2)), ((True, 3), (1, 2))),), (([0, 2], (1, 2)), ((1, 3), (1, 2)))):
            self.assertIs(shows_best(BRAESS, ONE, value), False)


class OrderTest(Raising, unittest.TestCase):
    def test_twenty_ways_and_one_more(self):
        trips, both = ((0, 2, (1, 1)),), ((0, 1, (1, 1)), (0, 2, (1, 1)))
        for function in PLAIN:
            function(TWENTY, trips)
            function(TWENTY_ONE, ((1, 2, (1, 1)),))
            self.assert_raises(TooMany, {"most": 20}, function, TWENTY_ONE, trips)
            self.assert_raises(TooMany, {"most": 20}, function, TWENTY_ONE, both)
            self.assert_raises(BadTrips, {"index": 1}, function, TWENTY_ONE, trips * 2)
        self.assert_raises(TooMany, {"most": 20}, shows_best, TWENTY_ONE, trips, None)

    def test_the_leftmost_error(self):
        for function in PLAIN:
            self.assert_raises(BadNet, {"index": 0}, function, (2, (None,)), None)
            self.assert_raises(BadTrips, {"index": None}, function, SMALL, {})
        self.assert_raises(BadNet, {"index": None}, shows_best, (7, ((0, 1, 0, 0),)), "x", "x")
        self.assert_raises(BadTrips, {"index": 0}, shows_best, SMALL, ((0, 2, (0, 1)),), "x")


if __name__ == "__main__":
    unittest.main()
