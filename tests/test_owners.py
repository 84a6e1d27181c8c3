"""Point 16: owners who each route travellers of their own."""

import random
import unittest
from fractions import Fraction

from tests.support import (BRAESS, CROSSED, FLAT, FREE, INTEGER_WRONGS, PIGOU, Raising, SHARED, SHARED_TRIPS, SMALL,
                           TWENTY, TWENTY_ONE, flows_of, is_best, is_routing, mixtures, neighbours, number, ratio,
                           sample_ratio, samples, times_of, uses_least, ways_of)
from tollroads.bests import best_total
from tollroads.errors import BadNet, BadOwners, TooMany
from tollroads.owners import owner_totals, shared_rest, shows_shared

ALL = (shared_rest, owner_totals, shows_shared)
LANES = (2, ((0, 1, 1, 0), (0, 1, 0, 4)))
SIXTIETH = Fraction(1, 60)


def call(function, net, owners):
    return function(net, owners, None) if function is shows_shared else function(net, owners)


def own_total(net, routing, place):
    """The sum of the times of one owner's travellers."""
    return sum(flow * time for flow, time in zip(flows_of(net, routing[place:place + 1]), times_of(net, routing)))


def is_shared(net, owners, value):
    """Whether a value is a shared rest."""
    if not is_routing(net, owners, value):
        return False
    times = times_of(net, value)
    for owner, part in zip(owners, value):
        own = flows_of(net, (part,))
        costs = [time + road[2] * flow for road, time, flow in zip(net[1], times, own)]
        if not uses_least(net, (owner,), (part,), costs):
            return False
    return True


def sample_owners(chance, trips):
    """One to three owners, several of them perhaps with the same start and goal."""
    return tuple((*chance.choice(trips)[:2], sample_ratio(chance, 12, 5)) for _ in range(chance.randint(1, 3)))


def cases(seed, many):
    """So many pairs (net, owners)."""
    chance = random.Random(seed)
    found = [(net, sample_owners(chance, trips)) for net, trips, _ in samples(seed, many)]
    return found + [(net, sample_owners(chance, trips)) for net, trips in mixtures(seed, many // 3)]


class SharedTest(Raising, unittest.TestCase):
    def check(self, net, owners):
        routing = shared_rest(net, owners)
        self.assertTrue(is_shared(net, owners, routing), (net, owners, routing))
        self.assertIs(shows_shared(net, owners, routing), True)
        self.assert_same(owner_totals(net, owners), tuple(ratio(own_total(net, routing, place))
                                                          for place in range(len(owners))))
        return routing

    def test_many_cases(self):
        for net, owners in cases(81, 150):
            self.check(net, owners)

    def test_known_nets(self):
        three = ((3, 1), (1, 2), (7, 3))
        for net, ends in ((BRAESS, (0, 3)), (PIGOU, (0, 1)), (FLAT, (0, 1)), (FREE, (0, 1)), (CROSSED, (0, 2)),
                          (SMALL, (0, 2)), (TWENTY, (0, 2)), (LANES, (0, 1))):
            for many in (1, 2, 3):
                self.check(net, tuple((*ends, demand) for demand in three[:many]))
        self.check(SHARED, SHARED_TRIPS)
        self.check(SHARED, (SHARED_TRIPS[0], SHARED_TRIPS[0], SHARED_TRIPS[2]))
        self.check(TWENTY, ((0, 2, (1000, 1)), (0, 1, (1, 100)), (0, 2, (1000, 99))))

    def test_no_owner_can_do_better_alone(self):
        for net, owners in cases(82, 30):
            routing = shared_rest(net, owners)
            for near in neighbours(net, owners, routing, SIXTIETH):
                moved = [place for place in range(len(owners)) if near[place] != routing[place]][0]
                self.assertTrue(own_total(net, near, moved) >= own_total(net, routing, moved))

    def test_a_single_owner_has_the_least_total(self):
        for net, trips, _ in samples(83, 60):
            routing = shared_rest(net, trips[:1])
            self.assertTrue(is_best(net, trips[:1], routing))
            self.assert_same(owner_totals(net, trips[:1]), (best_total(net, trips[:1]),))

    def test_worked_out_by_hand(self):
        # Of k owners each one routes x with x + k * x = 4 over the first road.
        for many, first, whole in ((1, (2, 1), (20, 1)), (2, (4, 3), (200, 9)), (3, (1, 1), (23, 1))):
            routing = shared_rest(LANES, ((0, 1, (6, 1)),) * many)
            self.assert_same(routing, ((((0,), first), ((1,), ratio(6 - number(first)))),) * many)
            self.assert_same(owner_totals(LANES, ((0, 1, (6, 1)),) * many), (whole,) * many)
        # The smaller owner leaves the slower road to the larger one.
        self.assert_same(shared_rest(LANES, ((0, 1, (1, 1)), (0, 1, (6, 1)))),
                         ((((0,), (1, 1)),), (((0,), (3, 2)), ((1,), (9, 2)))))
        self.assert_same(owner_totals(LANES, ((0, 1, (1, 1)), (0, 1, (6, 1)))), ((5, 2), (87, 4)))

    def test_roads_of_slope_nothing(self):
        flat = (2, ((0, 1, 0, 5), (0, 1, 0, 4), (0, 1, 0, 4)))
        routing = self.check(flat, ((0, 1, (3, 1)), (0, 1, (1, 7))))
        self.assertTrue(all(way != (0,) for part in routing for way, _ in part))
        self.assert_same(owner_totals(flat, ((0, 1, (3, 1)), (0, 1, (1, 7)))), ((12, 1), (4, 7)))


class ShowsSharedTest(Raising, unittest.TestCase):
    def test_near_values(self):
        for net, owners in cases(84, 45):
            routing = shared_rest(net, owners)
            for near in neighbours(net, owners, routing, SIXTIETH):
                self.assertIs(shows_shared(net, owners, near), is_shared(net, owners, near))

    def test_other_right_values(self):
        owners = ((0, 1, (4, 1)), (0, 1, (2, 1)))
        for top in range(41):
            part = tuple(pair for pair in (((0,), ratio(Fraction(top, 10))), ((1,), ratio(4 - Fraction(top, 10))))
                         if pair[1] != (0, 1))
            self.assertIs(shows_shared(FLAT, owners, (part, (((1,), (2, 1)),))), True)
            self.assertIs(shows_shared(FLAT, owners, (part, (((2,), (2, 1)),))), False)
        # Ways over both pairs of roads can be mixed as long as each owner has the same flows.
        owners, even = ((0, 2, (2, 1)), (0, 2, (2, 1))), (((0, 2), (1, 1)), ((1, 3), (1, 1)))
        crossed = (((0, 3), (1, 1)), ((1, 2), (1, 1)))
        for value in ((even, even), (even, crossed), (crossed, even), (crossed, crossed)):
            self.assertIs(shows_shared(CROSSED, owners, value), True)
        # The flows of both together are the same, but not those of each one.
        self.assertIs(shows_shared(CROSSED, owners, ((((0, 2), (2, 1)),), (((1, 3), (2, 1)),))), False)
        self.assertIs(shows_shared(CROSSED, owners, ((((0, 2), (1, 1)), ((0, 3), (1, 1))), even)), False)

    def test_whose_flow_it_is(self):
        owners = ((0, 1, (1, 1)), (0, 1, (6, 1)))
        right = ((((0,), (1, 1)),), (((0,), (3, 2)), ((1,), (9, 2))))
        self.assertIs(shows_shared(LANES, owners, right), True)
        self.assertIs(shows_shared(LANES, owners, right[::-1]), False)
        other = ((((1,), (1, 1)),), (((0,), (5, 2)), ((1,), (7, 2))))
        self.assertIs(shows_shared(LANES, owners, other), False)
        # With this routing the travellers would be at rest, or have the least total, if they had one owner or none.
        for first in ((4, 1), (2, 1), (3, 1)):
            value = ((((1,), (1, 1)),), (((0,), first), ((1,), ratio(6 - number(first)))))
            self.assertIs(shows_shared(LANES, owners, value), False)

    def test_values_of_all_kinds(self):
        owners, right = ((0, 1, (6, 1)),), ((((0,), (2, 1)), ((1,), (4, 1))),)
        self.assertIs(shows_shared(LANES, owners, right), True)
        for value in (*INTEGER_WRONGS, [*right], right[0], (*right, ()), ((),), (right[0][::-1],), {0: right[0]},
                      ((((0,), (2, 1)), ((1,), (8, 2))),), ((((0,), (2, True)), ((1,), (4, 1))),),
                      ((((False,), (2, 1)), ((1,), (4, 1))),), ((((0,), [2, 1]), ((1,), (4, 1))),),
                      ((((0,), (2, 1)), ((1,), (3, 1))),), ([*right[0]],), ((None, None),)):
            self.assertIs(shows_shared(LANES, owners, value), False, value)


class WrongTest(Raising, unittest.TestCase):
    def refuse(self, index, owners, net=SMALL):
        for function in ALL:
            self.assert_raises(BadOwners, {"index": index}, call, function, net, owners)

    def test_how_many(self):
        for value in (*INTEGER_WRONGS, [(0, 2, (1, 1))], ((0, 2, (1, 1)),) * 4, ("x",) * 4, {0: (0, 2, (1, 1))}, 0, 1):
            if value != (0,):
                self.refuse(None, value)

    def test_kinds_of_an_owner(self):
        for owner in (*INTEGER_WRONGS, 0, [0, 2, (1, 1)], (0, 2), (0, 2, (1, 1), 0), (0, 0, (1, 1)), (0, 3, (1, 1)),
                      (-1, 2, (1, 1)), (False, 2, (1, 1)), (0, True, (1, 1)), ("0", 2, (1, 1)), (0, None, (1, 1)),
                      (2, 0, (1, 1)), (1, 0, (1, 1)), (0, 2, (0, 1)), (0, 2, (1001, 1)), (0, 2, (1, 101)),
                      (0, 2, (-1, 1)), (0, 2, (2, 2)), (0, 2, 1), (0, 2, [1, 1]), (0, 2, (True, 1)), (0, 2, None)):
            self.refuse(0, (owner,))
            self.refuse(1, ((0, 1, (1, 1)), owner, "x"))
            self.refuse(2, ((0, 2, (1, 1)), (0, 2, (1, 1)), owner))

    def test_owners_may_have_the_same_start_and_goal(self):
        self.assertEqual(len(shared_rest(SMALL, ((0, 2, (1, 1)), (0, 2, (1, 1)), (0, 2, (5, 3))))), 3)

    def test_twenty_ways_and_one_more(self):
        for function in ALL:
            call(function, TWENTY, ((0, 2, (1, 1)), (0, 2, (1, 1))))
            call(function, TWENTY_ONE, ((0, 1, (1, 1)), (1, 2, (1, 1))))
            for owners in (((0, 2, (1, 1)),), ((0, 1, (1, 1)), (0, 2, (1, 1)))):
                self.assert_raises(TooMany, {"most": 20}, call, function, TWENTY_ONE, owners)
            self.refuse(1, ((0, 2, (1, 1)), "x"), TWENTY_ONE)
        self.assertEqual(len(ways_of(TWENTY_ONE, 0, 2)), 21)

    def test_the_leftmost_error(self):
        for function in ALL:
            self.assert_raises(BadNet, {"index": None}, call, function, "x", "x")
            self.assert_raises(BadNet, {"index": 1}, call, function, (2, ((0, 1, 0, 0), 5)), ())


if __name__ == "__main__":
    unittest.main()
