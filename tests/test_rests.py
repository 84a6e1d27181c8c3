"""Points 5 and 7: rests with tolls, their costs, totals and takings, and other demands."""

import unittest
from fractions import Fraction

from tests.support import (BRAESS, CROSSED, FLAT, FREE, INTEGER_WRONGS, PIGOU, Raising, SHARED, SHARED_TRIPS, SMALL,
                           TWENTY, TWENTY_ONE, at_rest, costs_with, flows_of, is_routing, mixtures, neighbours,
                           number, ratio, reduced, samples, total_of, way_costs, zeros)
from tollroads.errors import BadDemand, BadIndex, BadNet, BadTolls, BadTrips, TooMany
from tollroads.rests import cheapest_ways, more_of, rest, rest_costs, rest_total, shows_rest, takings

WITH_TOLLS = (rest, rest_costs, cheapest_ways, rest_total, takings)
ONE = ((0, 3, (1, 1)),)
FORTIETH = Fraction(1, 40)


class RestTest(Raising, unittest.TestCase):
    def check(self, net, trips, tolls):
        """Check all answers for one case against an own reckoning from the conditions of a rest."""
        routing = rest(net, trips, tolls)
        self.assertTrue(at_rest(net, trips, tolls, routing), (net, trips, tolls, routing))
        self.assertIs(shows_rest(net, trips, tolls, routing), True)
        costs = costs_with(net, routing, tolls)
        known = [way_costs(net, trip, costs) for trip in trips]
        least = [min(table.values()) for table in known]
        self.assert_same(rest_costs(net, trips, tolls), tuple(map(ratio, least)))
        cheapest = [tuple(sorted(way for way in table if table[way] == low)) for table, low in zip(known, least)]
        self.assert_same(cheapest_ways(net, trips, tolls), tuple(cheapest))
        self.assert_same(rest_total(net, trips, tolls), ratio(total_of(net, routing)))
        taken = sum(flow * number(toll) for flow, toll in zip(flows_of(net, routing), tolls))
        self.assert_same(takings(net, trips, tolls), ratio(taken))

    def test_many_cases(self):
        for net, trips, tolls in samples(4, 150):
            self.check(net, trips, tolls)
            self.check(net, trips, zeros(net))

    def test_ways_that_can_be_mixed(self):
        for net, trips in mixtures(31, 150):
            self.check(net, trips, zeros(net))

    def test_known_nets(self):
        for net, trips in ((BRAESS, ONE), (PIGOU, ((0, 1, (5, 2)),)), (FLAT, ((0, 1, (4, 1)),)),
                           (FREE, ((0, 1, (1, 100)),)), (SHARED, SHARED_TRIPS), (SHARED, SHARED_TRIPS[:2]),
                           (SHARED, SHARED_TRIPS[2:]), (CROSSED, ((0, 2, (3, 1)), (0, 1, (1, 3)))),
                           (TWENTY, ((0, 2, (1000, 1)),)), (TWENTY, ((0, 2, (7, 3)), (0, 1, (1, 2)), (1, 2, (9, 1))))):
            self.check(net, trips, zeros(net))
            self.check(net, trips, tuple((index % 3, 1) for index in range(len(net[1]))))

    def test_costs_worked_out_by_hand(self):
        for demand, cost in (((1, 2), (1, 1)), ((1, 1), (2, 1)), ((2, 1), (2, 1)), ((3, 1), (5, 2))):
            self.assert_same(rest_costs(BRAESS, ((0, 3, demand),), zeros(BRAESS)), (cost,))
        self.assert_same(rest_costs(PIGOU, ((0, 1, (1, 3)),), zeros(PIGOU)), ((1, 3),))
        self.assert_same(rest_costs(PIGOU, ((0, 1, (7, 3)),), zeros(PIGOU)), ((1, 1),))
        self.assert_same(rest_costs(CROSSED, ((0, 2, (2, 1)),), zeros(CROSSED)), ((2, 1),))
        self.assert_same(rest_costs(SMALL, ((0, 2, (3, 1)), (0, 1, (1, 1)), (1, 2, (1, 1))), zeros(SMALL)),
                         ((5, 1), (3, 1), (3, 1)))

    def test_three_slopes_at_once(self):
        net = (2, ((0, 1, 2, 1), (0, 1, 3, 0), (0, 1, 6, 2)))
        self.assert_same(rest(net, ((0, 1, (6, 1)),), zeros(net)),
                         ((((0,), (35, 12)), ((1,), (41, 18)), ((2,), (29, 36))),))
        self.assert_same(rest_costs(net, ((0, 1, (6, 1)),), zeros(net)), ((41, 6),))

    def test_tolls_turn_travellers_away(self):
        tolls = ((1, 2), (0, 1))
        trips = ((0, 1, (3, 1)),)
        self.assert_same(rest(PIGOU, trips, tolls), ((((0,), (1, 2)), ((1,), (5, 2))),))
        self.assert_same(rest_costs(PIGOU, trips, tolls), ((1, 1),))
        self.assert_same(rest_total(PIGOU, trips, tolls), (11, 4))
        self.assert_same(takings(PIGOU, trips, tolls), (1, 4))
        self.assert_same(rest(PIGOU, trips, ((1, 1), (0, 1))), ((((1,), (3, 1)),),))
        self.assert_same(cheapest_ways(PIGOU, trips, ((1, 1), (0, 1))), (((0,), (1,)),))
        self.assert_same(cheapest_ways(PIGOU, trips, ((2, 1), (0, 1))), (((1,),),))
        self.assert_same(takings(PIGOU, trips, ((2, 1), (0, 1))), (0, 1))
        self.assert_same(takings(PIGOU, trips, ((2, 1), (1, 10 ** 4))), (3, 10 ** 4))

    def test_total_and_takings_are_those_of_the_same_routing(self):
        # Both roads cost 5 in all, but the time of the one and the toll of the other differ.
        net = (2, ((0, 1, 0, 5), (0, 1, 0, 3), (0, 1, 0, 1)))
        trips, tolls = ((0, 1, (2, 1)),), ((0, 1), (2, 1), (4, 1))
        self.check(net, trips, tolls)
        whole = number(rest_total(net, trips, tolls)) + number(takings(net, trips, tolls))
        self.assertEqual(whole, 10)

    def test_costs_that_nobody_pays(self):
        # The way over the empty road costs as much as the used one, or a little more.
        net = (2, ((0, 1, 1, 0), (0, 1, 7, 3)))
        self.assert_same(cheapest_ways(net, ((0, 1, (3, 1)),), zeros(net)), (((0,), (1,)),))
        self.assert_same(cheapest_ways(net, ((0, 1, (299, 100)),), zeros(net)), (((0,),),))
        self.assert_same(rest(net, ((0, 1, (3, 1)),), zeros(net)), ((((0,), (3, 1)),),))


class ShowsRestTest(Raising, unittest.TestCase):
    def test_neighbours(self):
        for net, trips, tolls in samples(5, 60):
            routing = rest(net, trips, tolls)
            for near in neighbours(net, trips, routing, FORTIETH):
                self.assertTrue(is_routing(net, trips, near))
                self.assertIs(shows_rest(net, trips, tolls, near), at_rest(net, trips, tolls, near))

    def test_all_rests_on_flat_roads(self):
        trips, none = ((0, 1, (4, 1)),), zeros(FLAT)
        for part in range(41):
            amounts = [((0,), Fraction(part, 10)), ((1,), 4 - Fraction(part, 10))]
            value = (tuple((way, ratio(amount)) for way, amount in amounts if amount),)
            self.assertIs(shows_rest(FLAT, trips, none, value), True)
        self.assertIs(shows_rest(FLAT, trips, none, ((((2,), (4, 1)),),)), False)
        self.assertIs(shows_rest(FLAT, trips, none, ((((0,), (2, 1)), ((1,), (1, 1)), ((2,), (1, 1))),)), False)
        self.assertIs(shows_rest(FLAT, trips, ((0, 1), (1, 100), (0, 1)), ((((0,), (4, 1)),),)), True)
        self.assertIs(shows_rest(FLAT, trips, ((1, 100), (0, 1), (0, 1)), ((((0,), (4, 1)),),)), False)

    def test_all_mixtures_of_crossed_ways(self):
        trips, none = ((0, 2, (2, 1)),), zeros(CROSSED)
        for value in (((((0, 2), (1, 1)), ((1, 3), (1, 1))),), ((((0, 3), (1, 1)), ((1, 2), (1, 1))),),
                      (tuple((way, (1, 2)) for way in ((0, 2), (0, 3), (1, 2), (1, 3))),)):
            self.assertIs(shows_rest(CROSSED, trips, none, value), True)
        for value in (((((0, 2), (1, 1)), ((1, 2), (1, 1))),), ((((0, 2), (2, 1)),),)):
            self.assertIs(shows_rest(CROSSED, trips, none, value), False)

    def test_each_trip_counts(self):
        trips = ((0, 2, (3, 1)), (0, 1, (1, 1)), (1, 2, (1, 1)))
        right = ((((1,), (3, 1)),), (((0,), (1, 1)),), (((2,), (1, 1)),))
        self.assertIs(shows_rest(SMALL, trips, zeros(SMALL), right), True)
        self.assertIs(shows_rest(SMALL, trips, zeros(SMALL), right[:2]), False)
        self.assertIs(shows_rest(SMALL, trips, zeros(SMALL), right[::-1]), False)
        wrong = ((((0, 2), (1, 1)), ((1,), (2, 1))), *right[1:])
        self.assertIs(shows_rest(SMALL, trips, zeros(SMALL), wrong), False)
        second = (2, ((0, 1, 1, 0), (1, 0, 0, 5), (1, 0, 0, 4)))
        trips = ((0, 1, (1, 1)), (1, 0, (1, 1)))
        self.assertIs(shows_rest(second, trips, zeros(second), ((((0,), (1, 1)),), (((2,), (1, 1)),))), True)
        self.assertIs(shows_rest(second, trips, zeros(second), ((((0,), (1, 1)),), (((1,), (1, 1)),))), False)

    def test_values_of_all_kinds(self):
        right = rest(BRAESS, ONE, zeros(BRAESS))
        for value in (*INTEGER_WRONGS, [*right], right[0], (*right, ()), ((((0, 4, 3), (2, 2)),),), {0: right[0]},
                      ((((0, 4, 3), (True, True)),),), (([(0, 4, 3), (1, 1)],),), ((((0, 4, 3), [1, 1]),),),
                      ((([0, 4, 3], (1, 1)),),), ((((False, 4, 3), (1, 1)),),), ((((0, 4, 3), (1, 2)),),),
                      ((((0, 4, 3), (1, 2)), ((0, 4, 3), (1, 2))),)):
            self.assertIs(shows_rest(BRAESS, ONE, zeros(BRAESS), value), False)


class TollsTest(Raising, unittest.TestCase):
    def refuse(self, tolls):
        for function in WITH_TOLLS:
            self.assert_raises(BadTolls, {}, function, PIGOU, ((0, 1, (1, 1)),), tolls)
        self.assert_raises(BadTolls, {}, shows_rest, PIGOU, ((0, 1, (1, 1)),), tolls, None)

    def test_bounds(self):
        for toll in ((0, 1), (10 ** 6, 1), (1, 10 ** 4), (999999, 10 ** 4)):
            tolls = (toll, (0, 1))
            self.assertTrue(at_rest(PIGOU, ((0, 1, (1, 1)),), tolls, rest(PIGOU, ((0, 1, (1, 1)),), tolls)))
        for toll in ((10 ** 6 + 1, 1), (1, 10 ** 4 + 1), (-1, 1), (-1, 10 ** 4), (2, 2), (0, 2), (1, 0), (1, -1),
                     (0, -1), (1,), (1, 1, 1), [1, 1], 0, 1, "1", None, True, (True, 1), (0, True), (False, 1), (), {}):
            self.refuse((toll, (0, 1)))
            self.refuse(((0, 1), toll))

    def test_forms(self):
        for tolls in (*INTEGER_WRONGS, (), ((0, 1),), ((0, 1),) * 3, [(0, 1), (0, 1)], {0: (0, 1), 1: (0, 1)}, (0, 1),
                      "00"):
            self.refuse(tolls)


class MoreOfTest(Raising, unittest.TestCase):
    def test_against_other_trips(self):
        for net, trips, _ in samples(6, 60):
            for index, trip in enumerate(trips):
                for demand in ((1, 100), (5, 3), (1000, 1)):
                    other = (*trips[:index], (*trip[:2], demand), *trips[index + 1:])
                    self.assert_same(more_of(net, trips, index, demand), rest_costs(net, other, zeros(net)))

    def test_a_single_trip_never_costs_less(self):
        for net, trips, _ in samples(7, 40):
            costs = [more_of(net, trips[:1], 0, reduced(top, 3))[0] for top in range(1, 20)]
            self.assertEqual(sorted(costs, key=number), costs)

    def test_known_answers(self):
        self.assert_same(more_of(BRAESS, ONE, 0, (3, 1)), ((5, 2),))
        trips = ((0, 2, (3, 1)), (0, 1, (1, 1)), (1, 2, (1, 1)))
        self.assert_same(more_of(SMALL, trips, 1, (4, 1)), ((5, 1), (6, 1), (3, 1)))
        self.assert_same(more_of(SMALL, trips, 2, (4, 1)), ((5, 1), (3, 1), (12, 1)))
        self.assert_same(more_of(SMALL, trips, 0, (4, 1)), ((5, 1), (3, 1), (3, 1)))

    def test_indexes(self):
        trips = ((0, 2, (3, 1)), (0, 1, (1, 1)))
        for index in (-1, 2, 3, 10 ** 20, True, False, None, "0", "", (), (0,), [0], {}, {0: 0}):
            self.assert_raises(BadIndex, {}, more_of, SMALL, trips, index, (1, 1))
            self.assert_raises(BadIndex, {}, more_of, SMALL, trips, index, "x")

    def test_demands(self):
        for demand in ((1001, 1), (1, 101), (0, 1), (-1, 1), (2, 2), (1, 0), (1,), (1, 1, 1), [1, 1], 1, "1", None,
                       True, (True, 1), (1, True), (), {}):
            self.assert_raises(BadDemand, {}, more_of, BRAESS, ONE, 0, demand)


class OrderTest(Raising, unittest.TestCase):
    def test_twenty_ways_and_one_more(self):
        none, trips = zeros(TWENTY_ONE), ((0, 2, (1, 1)),)
        both = ((0, 1, (1, 1)), (0, 2, (1, 1)))
        for function in WITH_TOLLS:
            function(TWENTY, trips, zeros(TWENTY))
            function(TWENTY_ONE, ((1, 2, (1, 1)),), none)
            self.assert_raises(TooMany, {"most": 20}, function, TWENTY_ONE, trips, none)
            self.assert_raises(TooMany, {"most": 20}, function, TWENTY_ONE, both, none)
            self.assert_raises(BadTolls, {}, function, TWENTY_ONE, trips, none[1:])
            self.assert_raises(BadTrips, {"index": 1}, function, TWENTY_ONE, trips * 2, none)
        self.assert_raises(TooMany, {"most": 20}, shows_rest, TWENTY_ONE, trips, none, None)
        self.assert_raises(BadTolls, {}, shows_rest, TWENTY_ONE, trips, none[1:], None)
        self.assert_raises(TooMany, {"most": 20}, more_of, TWENTY_ONE, trips, 0, (1, 1))
        self.assert_raises(BadIndex, {}, more_of, TWENTY_ONE, trips, 1, (1, 1))
        self.assert_raises(BadDemand, {}, more_of, TWENTY_ONE, trips, 0, (0, 1))
        self.assertEqual(len(more_of(TWENTY, trips, 0, (2, 1))), 1)

    def test_the_leftmost_error(self):
        for function in WITH_TOLLS:
            self.assert_raises(BadNet, {"index": None}, function, (2, ()), "x", "x")
            self.assert_raises(BadTrips, {"index": 0}, function, BRAESS, ("x",), "x")
        self.assert_raises(BadNet, {"index": None}, shows_rest, None, "x", "x", "x")
        self.assert_raises(BadTrips, {"index": None}, shows_rest, BRAESS, "x", "x", "x")
        self.assert_raises(BadNet, {"index": 1}, more_of, (2, ((0, 1, 0, 0), 5)), "x", "x", "x")
        self.assert_raises(BadTrips, {"index": 1}, more_of, BRAESS, ONE * 2, "x", "x")


if __name__ == "__main__":
    unittest.main()
