"""Point 18: wishes, where the cost of the cheapest way tells how many set out."""

import random
import unittest
from fractions import Fraction

from tests.support import (BRAESS, CROSSED, FLAT, FREE, INTEGER_WRONGS, PIGOU, Raising, SHARED, SMALL, TWENTY,
                           TWENTY_ONE, is_ratio, is_routing, mixtures, neighbours, number, ratio, samples, times_of,
                           uses_least, way_costs)
from tollroads.errors import BadNet, BadWishes, TooMany
from tollroads.wishes import shows_wished, wished_rest

BOTH = (wished_rest, shows_wished)
LANES = (2, ((0, 1, 1, 0), (0, 1, 0, 4)))
SIXTIETH = Fraction(1, 60)


def call(function, *arguments):
    return function(*arguments, None) if function is shows_wished else function(*arguments)


def is_wished(net, wishes, value):
    """Whether a value is a pair of demands and a routing that are wished."""
    if not (isinstance(value, tuple) and len(value) == 2):
        return False
    demands, routing = value
    if not (isinstance(demands, tuple) and len(demands) == len(wishes)):
        return False
    if not all(is_ratio(demand) and demand[0] >= 0 for demand in demands):
        return False
    trips = tuple((*wish[:2], demand) for wish, demand in zip(wishes, demands))
    if not is_routing(net, trips, routing):
        return False
    times = times_of(net, routing)
    for wish, demand in zip(wishes, demands):
        cost = min(way_costs(net, wish, times).values())
        if number(demand) != max(0, wish[2] - wish[3] * cost):
            return False
    return uses_least(net, trips, routing, times)


def sample_wishes(chance, trips):
    most = chance.choice((3, 30, 300, 1000))
    return tuple((*trip[:2], chance.randint(1, most), chance.choice((1, 2, 7, chance.randint(1, 100))))
                 for trip in trips)


def cases(seed, many):
    """So many pairs (net, wishes)."""
    chance = random.Random(seed)
    found = [(net, sample_wishes(chance, trips)) for net, trips, _ in samples(seed, many)]
    return found + [(net, sample_wishes(chance, trips)) for net, trips in mixtures(seed, many // 3)]


def with_demand(value, place, demand):
    return (*value[0][:place], demand, *value[0][place + 1:])


class WishedTest(Raising, unittest.TestCase):
    def check(self, net, wishes):
        value = wished_rest(net, wishes)
        self.assertTrue(is_wished(net, wishes, value), (net, wishes, value))
        self.assertIs(shows_wished(net, wishes, value), True)
        return value

    def test_many_cases(self):
        found = [self.check(*case)[0] for case in cases(91, 200)]
        idle = sum(demand == (0, 1) for demands in found for demand in demands)
        self.assertTrue(20 < idle < len(found))

    def test_known_nets(self):
        for most in (1, 10, 999, 1000):
            for slope in (1, 3, 100):
                for net, ends in ((BRAESS, (0, 3)), (PIGOU, (0, 1)), (FLAT, (0, 1)), (FREE, (0, 1)), (CROSSED, (0, 2)),
                                  (SMALL, (0, 2)), (TWENTY, (0, 2)), (LANES, (0, 1))):
                    self.check(net, ((*ends, most, slope),))
                self.check(SHARED, ((0, 4, most, slope), (1, 3, 50, 3), (2, 4, 1001 - most, 2)))

    def test_worked_out_by_hand(self):
        self.assert_same(wished_rest(LANES, ((0, 1, 10, 1),)), (((6, 1),), ((((0,), (4, 1)), ((1,), (2, 1))),)))
        self.assert_same(wished_rest(LANES, ((0, 1, 4, 1),)), (((2, 1),), ((((0,), (2, 1)),),)))
        self.assert_same(wished_rest(LANES, ((0, 1, 10, 2),)), (((10, 3),), ((((0,), (10, 3)),),)))
        self.assert_same(wished_rest(LANES, ((0, 1, 1000, 100),)), (((600, 1),), ((((0,), (4, 1)), ((1,), (596, 1))),)))
        self.assert_same(wished_rest(LANES, ((0, 1, 1, 100),)), (((1, 101),), ((((0,), (1, 101)),),)))
        # Nothing costs anything: all of them set out.
        self.assert_same(wished_rest(FREE, ((0, 1, 1000, 100),)), (((1000, 1),), ((((0,), (1000, 1)),),)))

    def test_nobody_sets_out(self):
        for most, slope, many in ((5, 1, (0, 1)), (5, 2, (0, 1)), (6, 1, (1, 1)), (1, 100, (0, 1)), (500, 100, (0, 1)),
                                  (501, 100, (1, 1))):
            routing = ((((0,), many),),) if many != (0, 1) else ((),)
            self.assert_same(wished_rest((2, ((0, 1, 0, 5),)), ((0, 1, most, slope),)), ((many,), routing))
        # The first wish makes the shared road so dear that nobody of the second one sets out.
        net = (3, ((0, 1, 1, 0), (1, 2, 0, 3)))
        self.assert_same(wished_rest(net, ((0, 1, 10, 1), (0, 2, 8, 1))),
                         (((5, 1), (0, 1)), ((((0,), (5, 1)),), ())))
        self.assert_same(wished_rest(net, ((0, 1, 10, 1), (0, 2, 9, 1)))[0], ((14, 3), (2, 3)))

    def test_unlike_slopes(self):
        self.check(SHARED, ((0, 4, 500, 99), (1, 3, 500, 98), (2, 4, 500, 97)))
        net = (2, ((0, 1, 1, 0), (1, 0, 1, 0)))
        self.assert_same(wished_rest(net, ((0, 1, 6, 2), (1, 0, 7, 3))),
                         (((2, 1), (7, 4)), ((((0,), (2, 1)),), (((1,), (7, 4)),))))


class ShowsWishedTest(Raising, unittest.TestCase):
    def test_near_routings(self):
        for net, wishes in cases(92, 45):
            demands, routing = wished_rest(net, wishes)
            trips = tuple((*wish[:2], demand) for wish, demand in zip(wishes, demands))
            for near in neighbours(net, trips, routing, SIXTIETH):
                self.assertIs(shows_wished(net, wishes, (demands, near)), is_wished(net, wishes, (demands, near)))

    def test_near_demands(self):
        for net, wishes in cases(93, 45):
            demands, routing = wished_rest(net, wishes)
            for place, demand in enumerate(demands):
                for more in (SIXTIETH, -SIXTIETH, 1, -number(demand)):
                    moved = with_demand((demands, routing), place, ratio(number(demand) + more))
                    self.assertIs(shows_wished(net, wishes, (moved, routing)), more == 0)
                    for near in self.with_more(routing, place, more):
                        wanted = is_wished(net, wishes, (moved, near))
                        self.assertIs(shows_wished(net, wishes, (moved, near)), wanted)

    def with_more(self, routing, place, more):
        """The routings with another amount on one of the ways of a part."""
        for at, (way, amount) in enumerate(routing[place]):
            part = (*routing[place][:at], (way, ratio(number(amount) + more)), *routing[place][at + 1:])
            yield (*routing[:place], tuple(pair for pair in part if pair[1] != (0, 1)), *routing[place + 1:])

    def test_other_right_values(self):
        for top in range(11):
            part = tuple(pair for pair in (((0,), (top, 1)), ((1,), (10 - top, 1))) if pair[1] != (0, 1))
            self.assertIs(shows_wished(FLAT, ((0, 1, 15, 1),), (((10, 1),), (part,))), True)
            self.assertIs(shows_wished(FLAT, ((0, 1, 16, 1),), (((10, 1),), (part,))), False)
            self.assertIs(shows_wished(FLAT, ((0, 1, 15, 1),), (((11, 1),), (part,))), False)

    def test_demands_of_nothing(self):
        net = (2, ((0, 1, 0, 5),))
        self.assertIs(shows_wished(net, ((0, 1, 4, 1),), (((0, 1),), ((),))), True)
        for value in ((((-1, 1),), ((),)), (((0, 1),), ()), (((0, 1),), ((((0,), (0, 1)),),)), (((0, 1),), (None,)),
                      (((0, 1),), ([],)), (((0, 2),), ((),)), (((False, 1),), ((),)), ((0,), ((),)), ((None,), ((),)),
                      (((1, 1),), ((((0,), (1, 1)),),)), (((0, 1),), ((((0,), (1, 1)),),)), ((), ((),))):
            self.assertIs(shows_wished(net, ((0, 1, 4, 1),), value), False, value)

    def test_each_demand_is_a_ratio(self):
        net, wishes = (3, ((0, 1, 1, 0), (1, 2, 0, 3))), ((0, 1, 10, 1), (0, 2, 8, 1))
        routing = ((((0,), (5, 1)),), ())
        self.assertIs(shows_wished(net, wishes, (((5, 1), (0, 1)), routing)), True)
        for demands in (((5, 1), (False, 1)), ((5, 1), (0, True)), ((5, True), (0, 1)), ((5, 1), [0, 1]),
                        ([5, 1], (0, 1)), ((5, 1), (0, 2)), ((5, 1), (0, -1)), ((10, 2), (0, 1)), ((5, 1), (-1, 1))):
            self.assertIs(shows_wished(net, wishes, (demands, routing)), False, demands)

    def test_values_of_all_kinds(self):
        wishes, right = ((0, 1, 10, 1),), (((6, 1),), ((((0,), (4, 1)), ((1,), (2, 1))),))
        self.assertIs(shows_wished(LANES, wishes, right), True)
        part = right[1][0]
        for value in (*INTEGER_WRONGS, [*right], right[:1], (*right, 0), right[::-1], (right[0], part), {0: right},
                      ([*right[0]], right[1]), (((12, 2),), right[1]), ((6,), right[1]), (((6, True),), right[1]),
                      (((6, 1), (0, 1)), right[1]), (((6, 1), (0, 1)), (*right[1], ())), (right[0], (*right[1], ())),
                      (right[0], (part[::-1],)), (right[0], ((((0,), (4, 1)), ((True,), (2, 1))),)),
                      (right[0], ((((0,), (4, 1)), ((1,), (4, 2))),)), (right[0], ([*part],)), (right[0], None),
                      (None, right[1]), (right[0], ((part[0],),)), (((5, 1),), right[1])):
            self.assertIs(shows_wished(LANES, wishes, value), False, value)


class WrongTest(Raising, unittest.TestCase):
    def refuse(self, index, wishes, net=SMALL):
        for function in BOTH:
            self.assert_raises(BadWishes, {"index": index}, call, function, net, wishes)

    def test_how_many(self):
        for value in (*INTEGER_WRONGS, [(0, 2, 1, 1)], ((0, 2, 1, 1),) * 4, ("x",) * 4, {0: 0}, 0, 1):
            if value != (0,):
                self.refuse(None, value)

    def test_kinds_of_a_wish(self):
        for wish in (*INTEGER_WRONGS, 0, [0, 2, 1, 1], (0, 2, 1), (0, 2, 1, 1, 1), (0, 0, 1, 1), (0, 3, 1, 1),
                     (-1, 2, 1, 1), (False, 2, 1, 1), (0, True, 1, 1), ("0", 2, 1, 1), (2, 0, 1, 1), (1, 0, 1, 1),
                     *[(0, 2, most, 1) for most in (*INTEGER_WRONGS, 0, 1001, (1, 1))],
                     *[(0, 2, 1, slope) for slope in (*INTEGER_WRONGS, 0, 101, (1, 1))]):
            self.refuse(0, (wish,))
            self.refuse(1, ((0, 1, 1, 1), wish, "x"))

    def test_repetitions(self):
        self.refuse(1, ((0, 2, 1, 1), (0, 2, 1, 1)))
        self.refuse(2, ((0, 2, 1, 1), (0, 1, 1, 1), (0, 2, 7, 3)))
        self.refuse(1, ((0, 2, 1, 1), (0, 2, 1, 1), "x"))
        self.refuse(0, ((2, 0, 1, 1), (2, 0, 1, 1)))

    def test_bounds(self):
        for most, slope in ((1, 1), (1000, 100), (1, 100), (1000, 1)):
            self.assertIs(shows_wished(SMALL, ((0, 2, most, slope),), wished_rest(SMALL, ((0, 2, most, slope),))), True)

    def test_twenty_ways_and_one_more(self):
        for function in BOTH:
            call(function, TWENTY, ((0, 2, 10, 3), (0, 1, 10, 4)))
            call(function, TWENTY_ONE, ((0, 1, 10, 3), (1, 2, 10, 3)))
            for wishes in (((0, 2, 10, 3),), ((0, 1, 10, 3), (0, 2, 10, 3))):
                self.assert_raises(TooMany, {"most": 20}, call, function, TWENTY_ONE, wishes)
            self.refuse(1, ((0, 2, 10, 3), "x"), TWENTY_ONE)

    def test_the_leftmost_error(self):
        for function in BOTH:
            self.assert_raises(BadNet, {"index": None}, call, function, "x", "x")
            self.assert_raises(BadNet, {"index": 1}, call, function, (2, ((0, 1, 0, 0), 5)), ())


if __name__ == "__main__":
    unittest.main()
