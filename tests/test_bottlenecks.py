"""Point 20: the rush at a bottleneck, its queue and costs, and the tolls with which nobody waits."""

import random
import unittest
from fractions import Fraction

from tests.support import INTEGER_WRONGS, Raising, number, ratio
from tollroads.bottlenecks import (bottleneck_cost, bottleneck_rest, bottleneck_totals, cost_at, passed_by, queue_at,
                                   toll_at)
from tollroads.errors import BadBottleneck, BadTime

SOME = (60, 2, 6, 3, 6)
# Early and late alike, early just below waiting, one and a thousand travellers, everything smallest or largest.
KNOWN = (SOME, (60, 2, 6, 3, 3), (1, 1, 2, 1, 1), (1, 100, 100, 1, 100), (1000, 1, 2, 1, 100),
         (1000, 100, 100, 99, 100),
         (1, 1, 100, 99, 1), (7, 3, 5, 4, 2), (1000, 1, 100, 1, 1), (999, 7, 13, 12, 13))
OF_ONE = (bottleneck_rest, bottleneck_cost, bottleneck_totals)
OF_BOTH = (queue_at, passed_by, cost_at, toll_at)


def sample_bottlenecks(seed, many):
    chance = random.Random(seed)
    found = list(KNOWN)
    while len(found) < many:
        waiting = chance.randint(2, 100)
        early = chance.choice((waiting - 1, chance.randint(1, waiting - 1)))
        late = chance.choice((early, chance.randint(1, 100)))
        found.append((chance.randint(1, 1000), chance.randint(1, 100), waiting, early, late))
    return found


class Rush:
    """An own reckoning with fractions: the first one's cost is the last one's, and the queue grows and falls."""

    def __init__(self, some):
        self.travellers, self.rate, self.waiting, self.early, self.late = map(Fraction, some)
        length = self.travellers / self.rate
        self.last = length * self.early / (self.early + self.late)
        self.first = self.last - length
        self.cost = -self.first * self.early
        # The time in the queue grows by a steady share of the time, until it is just what is left until 0.
        grows = self.early / (self.waiting - self.early)
        self.turn = self.first * grows / (1 + grows)
        self.fast = self.rate * (1 + grows)
        self.slow = self.rate * (1 - self.late / (self.waiting + self.late))

    def wait(self, time):
        """The time in the queue of one who comes at a time."""
        if time <= self.first or time >= self.last:
            return Fraction(0)
        if time <= self.turn:
            return (time - self.first) * self.early / (self.waiting - self.early)
        return (self.last - time) * self.late / (self.waiting + self.late)

    def passing(self, time):
        return -time * self.early if time < 0 else time * self.late

    def passed(self, time):
        return min(max(time - self.first, 0) * self.rate, self.travellers)

    def moments(self):
        """Times before, at, within and after the rush, its corners among them."""
        corners = [self.first, self.turn, Fraction(0), self.last]
        between = [(one + other) / 2 for one, other in zip(corners, corners[1:])]
        thirds = [(2 * one + other) / 3 for one, other in zip(corners, corners[1:])]
        near = [corner + step for corner in corners for step in (Fraction(-1, 997), Fraction(1, 997))]
        far = [self.first - 5, self.last + Fraction(7, 3), Fraction(-10 ** 6), Fraction(10 ** 30)]
        return [*corners, *between, *thirds, *near, *far, Fraction(-1), Fraction(1), Fraction(10 ** 6 + 1, 10 ** 7 + 1)]


class RushTest(Raising, unittest.TestCase):
    def test_rest(self):
        for some in sample_bottlenecks(81, 150):
            rush = Rush(some)
            wanted = (rush.first, rush.turn, rush.last, rush.fast, rush.slow)
            self.assert_same(bottleneck_rest(some), tuple(ratio(part) for part in wanted))
            self.assert_same(bottleneck_cost(some), ratio(rush.cost))

    def test_what_the_document_says_of_the_rest(self):
        for some in sample_bottlenecks(82, 60):
            travellers, rate, waiting, early, late = some
            first, turn, last, fast, slow = map(number, bottleneck_rest(some))
            self.assertTrue(first < turn < 0 < last)
            # All come and all pass, and the one who comes at the turn is behind the bottleneck at 0.
            self.assertEqual(fast * (turn - first) + slow * (last - turn), travellers)
            self.assertEqual(rate * (last - first), travellers)
            self.assertEqual((fast - rate) * (turn - first) / rate, -turn)
            self.assertEqual(-early * first, late * last)
            self.assertEqual((fast - rate) / rate, Fraction(early, waiting - early))
            self.assertEqual((rate - slow) / rate, Fraction(late, waiting + late))

    def test_queue_and_passed(self):
        for some in sample_bottlenecks(83, 60):
            rush = Rush(some)
            for time in rush.moments():
                self.assert_same(queue_at(some, ratio(time)), ratio(rush.wait(time) * rush.rate))
                self.assert_same(passed_by(some, ratio(time)), ratio(rush.passed(time)))

    def test_costs(self):
        for some in sample_bottlenecks(84, 60):
            rush = Rush(some)
            for time in rush.moments():
                wait = rush.wait(time)
                cost = rush.waiting * wait + rush.passing(time + wait)
                self.assert_same(cost_at(some, ratio(time)), ratio(cost))
                # Nobody can lower the cost by coming at another time.
                if rush.first <= time <= rush.last:
                    self.assertEqual(cost, rush.cost)
                else:
                    self.assertGreater(cost, rush.cost)

    def test_tolls(self):
        for some in sample_bottlenecks(85, 60):
            rush = Rush(some)
            for time in rush.moments():
                toll = toll_at(some, ratio(time))
                self.assert_same(toll, ratio(max(rush.cost - rush.passing(time), 0)))
                # Nobody can lower cost and toll together.
                self.assertGreaterEqual(number(toll) + rush.passing(time), rush.cost)
                self.assertIs(number(toll) + rush.passing(time) == rush.cost, rush.first <= time <= rush.last)

    def test_totals(self):
        for some in sample_bottlenecks(86, 100):
            rush = Rush(some)
            # At the rate of the bottleneck, the costs fall straight to 0 and then rise straight.
            tolled = rush.rate * (-rush.first * rush.passing(rush.first) + rush.last * rush.passing(rush.last)) / 2
            self.assert_same(bottleneck_totals(some), (ratio(rush.travellers * rush.cost), ratio(tolled)))

    def test_worked_out_by_hand(self):
        self.assert_same([queue_at(SOME, (time, 1)) for time in (-21, -20, -15, -10, 0, 5, 10, 11)],
                         [(0, 1), (0, 1), (10, 1), (20, 1), (10, 1), (5, 1), (0, 1), (0, 1)])
        self.assert_same([passed_by(SOME, (time, 1)) for time in (-21, -20, -10, 0, 10, 11)],
                         [(0, 1), (0, 1), (20, 1), (40, 1), (60, 1), (60, 1)])
        self.assert_same([cost_at(SOME, (time, 1)) for time in (-30, -20, -10, 0, 10, 11)],
                         [(90, 1), (60, 1), (60, 1), (60, 1), (60, 1), (66, 1)])
        self.assert_same([toll_at(SOME, (time, 1)) for time in (-30, -20, -10, 0, 5, 10, 11)],
                         [(0, 1), (0, 1), (30, 1), (60, 1), (30, 1), (0, 1), (0, 1)])
        self.assert_same(cost_at(SOME, (21, 2)), (63, 1))
        self.assert_same(bottleneck_rest((1, 1, 2, 1, 1)), ((-1, 2), (-1, 4), (1, 2), (2, 1), (2, 3)))
        self.assert_same(bottleneck_totals((1, 1, 2, 1, 1)), ((1, 2), (1, 4)))


class WrongTest(Raising, unittest.TestCase):
    def refuse(self, some):
        for function in OF_ONE:
            self.assert_raises(BadBottleneck, {}, function, some)
        for function in OF_BOTH:
            self.assert_raises(BadBottleneck, {}, function, some, (0, 1))
            self.assert_raises(BadBottleneck, {}, function, some, "x")

    def test_bottlenecks(self):
        for some in (*INTEGER_WRONGS, 60, [*SOME], SOME[:4], (*SOME, 1), (SOME,), dict(enumerate(SOME)), (None,) * 5):
            self.refuse(some)

    def test_numbers_out_of_range(self):
        for some in ((0, 2, 6, 3, 6), (1001, 2, 6, 3, 6), (-1, 2, 6, 3, 6), (60, 0, 6, 3, 6), (60, 101, 6, 3, 6),
                     (60, 2, 0, 3, 6), (60, 2, 101, 3, 6), (60, 2, 6, 0, 6), (60, 2, 6, 6, 6), (60, 2, 6, 7, 6),
                     (60, 2, 3, 3, 3), (60, 2, 1, 1, 1), (60, 2, 100, 100, 6), (60, 2, 6, 3, 0), (60, 2, 6, 3, 101),
                     (60, 2, 6, -3, 6), (60, 2, 6, 3, -6)):
            self.refuse(some)

    def test_numbers_of_other_kinds(self):
        for place in range(5):
            for wrong in (*INTEGER_WRONGS, (SOME[place], 1), [SOME[place]], str(SOME[place])):
                self.refuse((*SOME[:place], wrong, *SOME[place + 1:]))

    def test_bounds(self):
        for some in ((1000, 100, 100, 99, 100), (1, 1, 2, 1, 1), (1, 1, 100, 1, 100)):
            for function in OF_ONE:
                function(some)
            for function in OF_BOTH:
                function(some, (0, 1))

    def test_times(self):
        for time in (*INTEGER_WRONGS, 0, 1, (1,), (1, 2, 3), [1, 2], (2, 2), (0, 2), (2, 4), (-2, 4), (1, 0), (0, 0),
                     (1, -1), (-1, -2), (True, 1), (1, True), (False, 1), ("1", 1), (1, None), (None, 1), ((1, 1), 1),
                     {0: 1, 1: 1}, "11"):
            for function in OF_BOTH:
                self.assert_raises(BadTime, {}, function, SOME, time)

    def test_any_ratio_is_a_time(self):
        for time in ((-10 ** 40, 1), (10 ** 40, 10 ** 40 + 1), (-1, 10 ** 9), (0, 1)):
            for function in OF_BOTH:
                top, bottom = function(SOME, time)
                self.assertGreater(bottom, 0)


if __name__ == "__main__":
    unittest.main()
