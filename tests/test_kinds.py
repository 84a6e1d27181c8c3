"""Point 19: kinds of travellers to whom a unit of time is worth unlike much."""

import random
import unittest
from fractions import Fraction

from tests.support import (BRAESS, CROSSED, FLAT, FREE, INTEGER_WRONGS, PIGOU, Raising, SHARED, SHARED_TRIPS, SMALL,
                           TWENTY, TWENTY_ONE, at_rest, is_routing, mixtures, neighbours, number, ratio, reduced,
                           sample_ratio, sample_tolls, samples, times_of, uses_least, zeros)
from tollroads.errors import BadKinds, BadNet, BadTolls, TooMany
from tollroads.kinds import kinds_rest, shows_kinds

BOTH = (kinds_rest, shows_kinds)
LANES = (2, ((0, 1, 1, 0), (0, 1, 0, 4)))
SIXTIETH = Fraction(1, 60)


def call(function, *arguments):
    return function(*arguments, None) if function is shows_kinds else function(*arguments)


def is_right(net, kinds, tolls, value):
    """Whether a value is a routing in which no kind has a way that costs less than a used one."""
    if not is_routing(net, kinds, value):
        return False
    times = times_of(net, value)
    return all(uses_least(net, (kind,), (part,), [kind[3] * time + number(toll) for time, toll in zip(times, tolls)])
               for kind, part in zip(kinds, value))


def sample_kinds(chance, trips):
    """One to three kinds, several of them perhaps with the same start and goal."""
    return tuple((*chance.choice(trips)[:2], sample_ratio(chance, 12, 5), chance.choice((1, 2, 3, 10, 99, 100)))
                 for _ in range(chance.randint(1, 3)))


def cases(seed, many):
    """So many triples (net, kinds, tolls), every fourth one without tolls."""
    chance = random.Random(seed)
    found = []
    for net, trips in [row[:2] for row in samples(seed, many)] + mixtures(seed, many // 3):
        tolls = zeros(net) if len(found) % 4 == 0 else sample_tolls(chance, net)
        if len(found) % 4 == 1:
            tolls = tuple(reduced(chance.randint(0, 99), chance.randint(1, 3)) for _ in net[1])
        found.append((net, sample_kinds(chance, trips), tolls))
    return found


class KindsTest(Raising, unittest.TestCase):
    def check(self, net, kinds, tolls):
        routing = kinds_rest(net, kinds, tolls)
        self.assertTrue(is_right(net, kinds, tolls, routing), (net, kinds, tolls, routing))
        self.assertIs(shows_kinds(net, kinds, tolls, routing), True)
        return routing

    def test_many_cases(self):
        for case in cases(85, 180):
            self.check(*case)

    def test_known_nets(self):
        for net, ends in ((BRAESS, (0, 3)), (PIGOU, (0, 1)), (FLAT, (0, 1)), (FREE, (0, 1)), (CROSSED, (0, 2)),
                          (SMALL, (0, 2)), (TWENTY, (0, 2)), (LANES, (0, 1))):
            kinds = ((*ends, (3, 1), 1), (*ends, (1, 2), 100), (*ends, (7, 3), 7))
            for many in (1, 2, 3):
                self.check(net, kinds[:many], zeros(net))
                self.check(net, kinds[:many], tuple((at % 3, 1) for at in range(len(net[1]))))
        kinds = tuple((*trip, value) for trip, value in zip(SHARED_TRIPS, (1, 100, 9)))
        self.check(SHARED, kinds, zeros(SHARED))
        self.check(SHARED, kinds, tuple((at, 1) for at in range(7)))

    def test_without_tolls_values_do_not_matter(self):
        for net, trips, _ in samples(86, 50):
            kinds = tuple((*trip, 17 * at + 3) for at, trip in enumerate(trips))
            self.assertTrue(at_rest(net, trips, zeros(net), kinds_rest(net, kinds, zeros(net))))

    def test_the_value_of_one(self):
        for net, trips, tolls in samples(87, 50):
            kinds = tuple((*trip, 1) for trip in trips)
            self.assertTrue(at_rest(net, trips, tolls, kinds_rest(net, kinds, tolls)))

    def test_worked_out_by_hand(self):
        # A toll of 3 on the first road is as bad as 3 / value units of time.
        tolls = ((3, 1), (0, 1))
        for value, first in ((1, (1, 1)), (2, (5, 2)), (3, (3, 1))):
            wanted = ((((0,), first), ((1,), ratio(5 - number(first)))),)
            self.assert_same(kinds_rest(LANES, ((0, 1, (5, 1), value),), tolls), wanted)
        self.assert_same(kinds_rest(LANES, ((0, 1, (5, 1), 100),), tolls),
                         ((((0,), (397, 100)), ((1,), (103, 100))),))
        # Those to whom time is worth more take the road with the toll.
        self.assert_same(kinds_rest(LANES, ((0, 1, (2, 1), 1), (0, 1, (2, 1), 100)), tolls),
                         ((((1,), (2, 1)),), (((0,), (2, 1)),)))
        self.assert_same(kinds_rest(LANES, ((0, 1, (2, 1), 1), (0, 1, (1, 2), 100)), tolls),
                         ((((0,), (1, 2)), ((1,), (3, 2))), (((0,), (1, 2)),)))

    def test_bounds_of_tolls(self):
        for toll in ((10 ** 6, 1), (1, 10 ** 4), (999999, 10 ** 4)):
            self.check(LANES, ((0, 1, (3, 1), 100), (0, 1, (1000, 97), 1)), (toll, (0, 1)))


class ShowsKindsTest(Raising, unittest.TestCase):
    def test_near_values(self):
        for net, kinds, tolls in cases(88, 45):
            routing = kinds_rest(net, kinds, tolls)
            for near in neighbours(net, kinds, routing, SIXTIETH):
                self.assertIs(shows_kinds(net, kinds, tolls, near), is_right(net, kinds, tolls, near))

    def test_other_right_values(self):
        kinds = ((0, 1, (4, 1), 1), (0, 1, (2, 1), 5))
        for top in range(41):
            part = tuple(pair for pair in (((0,), ratio(Fraction(top, 10))), ((1,), ratio(4 - Fraction(top, 10))))
                         if pair[1] != (0, 1))
            self.assertIs(shows_kinds(FLAT, kinds, zeros(FLAT), (part, (((1,), (2, 1)),))), True)
            self.assertIs(shows_kinds(FLAT, kinds, zeros(FLAT), (part, (((2,), (2, 1)),))), False)
        # The cheaper travellers of both kinds may change places without tolls.
        net, two = (2, ((0, 1, 1, 0), (0, 1, 1, 0))), ((0, 1, (2, 1), 1), (0, 1, (2, 1), 9))
        split, one, other = (((0,), (1, 1)), ((1,), (1, 1))), (((0,), (2, 1)),), (((1,), (2, 1)),)
        for value in ((split, split), (one, other), (other, one)):
            self.assertIs(shows_kinds(net, two, zeros(net), value), True)
        for value in ((one, one), (split, one), (other, other)):
            self.assertIs(shows_kinds(net, two, zeros(net), value), False)

    def test_to_whom_a_toll_matters(self):
        tolls, kinds = ((3, 1), (0, 1)), ((0, 1, (2, 1), 1), (0, 1, (2, 1), 100))
        right = ((((1,), (2, 1)),), (((0,), (2, 1)),))
        self.assertIs(shows_kinds(LANES, kinds, tolls, right), True)
        self.assertIs(shows_kinds(LANES, kinds, tolls, right[::-1]), False)
        self.assertIs(shows_kinds(LANES, kinds, zeros(LANES), right), False)
        self.assertIs(shows_kinds(LANES, kinds, ((2, 1), (0, 1)), right), True)
        self.assertIs(shows_kinds(LANES, kinds, ((19, 10), (0, 1)), right), False)
        self.assertIs(shows_kinds(LANES, kinds, ((200, 1), (0, 1)), right), True)
        self.assertIs(shows_kinds(LANES, kinds, ((201, 1), (0, 1)), right), False)

    def test_values_of_all_kinds(self):
        kinds, tolls, right = ((0, 1, (3, 1), 2),), ((3, 1), (0, 1)), ((((0,), (5, 2)), ((1,), (1, 2))),)
        self.assertIs(shows_kinds(LANES, kinds, tolls, right), True)
        for value in (*INTEGER_WRONGS, [*right], right[0], (*right, ()), ((),), (right[0][::-1],), {0: right[0]},
                      ((((0,), (5, 2)), ((1,), (2, 4))),), ((((0,), (5, 2)), ((1,), (True, 2))),),
                      ((((False,), (5, 2)), ((1,), (1, 2))),), ((((0,), [5, 2]), ((1,), (1, 2))),),
                      ((((0,), (5, 2)),),), ([*right[0]],), ((None, None),)):
            self.assertIs(shows_kinds(LANES, kinds, tolls, value), False, value)


class WrongTest(Raising, unittest.TestCase):
    def refuse(self, index, kinds, net=SMALL):
        for function in BOTH:
            self.assert_raises(BadKinds, {"index": index}, call, function, net, kinds, "x")

    def test_how_many(self):
        for value in (*INTEGER_WRONGS, [(0, 2, (1, 1), 1)], ((0, 2, (1, 1), 1),) * 4, ("x",) * 4, {0: 0}, 0, 1):
            if value != (0,):
                self.refuse(None, value)

    def test_kinds_of_a_kind(self):
        for kind in (*INTEGER_WRONGS, 0, [0, 2, (1, 1), 1], (0, 2, (1, 1)), (0, 2, (1, 1), 1, 1), (0, 0, (1, 1), 1),
                     (0, 3, (1, 1), 1), (False, 2, (1, 1), 1), ("0", 2, (1, 1), 1), (2, 0, (1, 1), 1),
                     (0, 2, (0, 1), 1), (0, 2, (1001, 1), 1), (0, 2, (1, 101), 1), (0, 2, (2, 2), 1), (0, 2, 1, 1),
                     (0, 2, (True, 1), 1), *[(0, 2, (1, 1), value) for value in (*INTEGER_WRONGS, 0, 101, (1, 1))]):
            self.refuse(0, (kind,))
            self.refuse(1, ((0, 1, (1, 1), 1), kind, "x"))
            self.refuse(2, ((0, 2, (1, 1), 1), (0, 2, (1, 1), 1), kind))

    def test_bounds_of_values(self):
        for value in (1, 100):
            self.assertEqual(len(kinds_rest(SMALL, ((0, 2, (1, 1), value),) * 3, zeros(SMALL))), 3)

    def test_tolls(self):
        kinds = ((0, 1, (1, 1), 5),)
        for tolls in (*INTEGER_WRONGS, ((0, 1),), ((0, 1),) * 3, [(0, 1), (0, 1)], "00", *[
                ((0, 1), toll) for toll in ((10 ** 6 + 1, 1), (1, 10 ** 4 + 1), (-1, 1), (2, 2), (1, 0), 0, 1, None,
                                            (True, 1), [1, 1], "1", (1,), (1, 1, 1))]):
            for function in BOTH:
                self.assert_raises(BadTolls, {}, call, function, PIGOU, kinds, tolls)

    def test_twenty_ways_and_one_more(self):
        for function in BOTH:
            call(function, TWENTY, ((0, 2, (1, 1), 3), (0, 2, (1, 1), 4)), zeros(TWENTY))
            call(function, TWENTY_ONE, ((0, 1, (1, 1), 3),), zeros(TWENTY_ONE))
            for kinds in (((0, 2, (1, 1), 3),), ((0, 1, (1, 1), 3), (0, 2, (1, 1), 3))):
                self.assert_raises(TooMany, {"most": 20}, call, function, TWENTY_ONE, kinds, zeros(TWENTY_ONE))
                self.assert_raises(BadTolls, {}, call, function, TWENTY_ONE, kinds, zeros(TWENTY_ONE)[1:])
            self.refuse(1, ((0, 2, (1, 1), 3), "x"), TWENTY_ONE)

    def test_the_leftmost_error(self):
        for function in BOTH:
            self.assert_raises(BadNet, {"index": None}, call, function, "x", "x", "x")
            self.assert_raises(BadNet, {"index": 1}, call, function, (2, ((0, 1, 0, 0), 5)), (), "x")


if __name__ == "__main__":
    unittest.main()
