"""Point 9: a leader who routes a share of the demand ahead of the others."""

import unittest
from fractions import Fraction

from tests.support import (INTEGER_WRONGS, Raising, are_flows, lane_margins, lane_times, number, only_least_used, ratio,
                           reduced, sample_lanes)
from tollroads.errors import BadDemand, BadLanes, BadShare
from tollroads.lanes import lane_rest
from tollroads.leaders import leader_plan, shows_plan

LANES = ((1, 0), (2, 1), (0, 5))
SHARES = ((0, 1), (1, 1), (1, 2), (1, 100), (99, 100), (2, 3), (13, 97))


def led_of(lanes, flows, amount):
    """The leader's flows that belong to best ones."""
    times = lane_times(lanes, flows)
    led = [Fraction(0)] * len(lanes)
    for index in sorted(range(len(lanes)), key=lambda index: (-times[index], -index)):
        led[index] = min(number(flows[index]), amount)
        amount -= led[index]
    return tuple(map(ratio, led))


def total_of(lanes, led, others):
    both = tuple(ratio(number(one) + number(other)) for one, other in zip(led, others))
    return both, ratio(sum(number(flow) * time for flow, time in zip(both, lane_times(lanes, both))))


def is_plan(lanes, demand, share, value):
    """Whether a quadruple of flows, flows, flows and a ratio is a plan."""
    best, led, others, total = value
    whole, part = number(demand), number(share)
    if not (are_flows(lanes, whole, best) and only_least_used(lane_margins(lanes, best), best)):
        return False
    if led != led_of(lanes, best, whole * part) or not are_flows(lanes, whole * (1 - part), others):
        return False
    both, wanted = total_of(lanes, led, others)
    return only_least_used(lane_times(lanes, both), others) and total == wanted


def moves(flows):
    """The tuples of flows with a little moved from one lane to another one."""
    found = []
    for source in range(len(flows)):
        for target in range(len(flows)):
            moved = [number(flow) for flow in flows]
            size = min(moved[source], Fraction(1, 24))
            moved[source] -= size
            moved[target] += size
            found.append(tuple(map(ratio, moved)))
    return found


class PlanTest(Raising, unittest.TestCase):
    def check(self, lanes, demand, share):
        plan = leader_plan(lanes, demand, share)
        self.assertEqual((type(plan), len(plan)), (tuple, 4))
        self.assertTrue(is_plan(lanes, demand, share, plan), (lanes, demand, share, plan))
        self.assertIs(shows_plan(lanes, demand, share, plan), True)
        least = sum(number(flow) * time for flow, time in zip(plan[0], lane_times(lanes, plan[0])))
        self.assertTrue(least <= number(plan[3]))
        self.assertTrue(number(plan[3]) * number(share) <= least)
        return plan

    def test_many_plans(self):
        for lanes, demand in sample_lanes(15, 60):
            for share in SHARES:
                self.check(lanes, demand, share)

    def test_worked_out_by_hand(self):
        # The slower lane comes first, here that with the smaller slope.
        self.assert_same(leader_plan(((4, 0), (1, 1)), (3, 1), (1, 2)),
                         (((7, 10), (23, 10)), ((0, 1), (3, 2)), ((4, 5), (7, 10)), (48, 5)))
        # Of equal times the greater index comes first.
        self.assert_same(leader_plan(((1, 0), (1, 0)), (2, 1), (1, 2)),
                         (((1, 1), (1, 1)), ((0, 1), (1, 1)), ((1, 1), (0, 1)), (2, 1)))
        self.assert_same(leader_plan(((1, 0), (1, 0)), (2, 1), (3, 4)),
                         (((1, 1), (1, 1)), ((1, 2), (1, 1)), ((1, 2), (0, 1)), (2, 1)))
        self.assert_same(leader_plan(((1, 0), (0, 1)), (1, 1), (1, 2)),
                         (((1, 2), (1, 2)), ((0, 1), (1, 2)), ((1, 2), (0, 1)), (3, 4)))
        self.assert_same(leader_plan(((1, 0), (0, 1)), (1, 1), (1, 4)),
                         (((1, 2), (1, 2)), ((0, 1), (1, 4)), ((3, 4), (0, 1)), (13, 16)))
        self.assert_same(leader_plan(((7, 3),), (1, 2), (1, 3)), (((1, 2),), ((1, 6),), ((1, 3),), (13, 4)))

    def test_no_share_and_the_whole(self):
        for lanes, demand in sample_lanes(16, 40):
            best, led, others, total = self.check(lanes, demand, (0, 1))
            self.assert_same(led, ((0, 1),) * len(lanes))
            time, _ = lane_rest(lanes, demand)
            self.assertEqual(number(total), number(time) * number(demand))
            best, led, others, total = self.check(lanes, demand, (1, 1))
            self.assert_same(led, best)
            self.assert_same(others, ((0, 1),) * len(lanes))
            self.assert_same(total, total_of(lanes, best, others)[1])


class ShowsPlanTest(Raising, unittest.TestCase):
    def test_each_part_moved(self):
        for lanes, demand in sample_lanes(17, 25):
            for share in ((0, 1), (1, 1), (2, 5)):
                plan = leader_plan(lanes, demand, share)
                for place in range(3):
                    for moved in moves(plan[place]):
                        near = (*plan[:place], moved, *plan[place + 1:])
                        self.assertIs(shows_plan(lanes, demand, share, near), is_plan(lanes, demand, share, near))
                        total = total_of(lanes, near[1], near[2])[1]
                        near = (*near[:3], total)
                        self.assertIs(shows_plan(lanes, demand, share, near), is_plan(lanes, demand, share, near))

    def test_other_right_plans(self):
        lanes, demand = ((1, 0), (0, 2), (0, 2)), (3, 1)
        for top in range(0, 21):
            best = ((1, 1), reduced(top, 10), reduced(20 - top, 10))
            for share in ((1, 3), (2, 3), (5, 6), (1, 1)):
                led = led_of(lanes, best, 3 * number(share))
                free = 3 * (1 - number(share))
                first = min(free, 2 - number(led[0]))
                for second in (Fraction(0), free - first, (free - first) / 2):
                    others = (ratio(first), ratio(second), ratio(free - first - second))
                    value = (best, led, others, total_of(lanes, led, others)[1])
                    self.assertTrue(is_plan(lanes, demand, share, value))
                    self.assertIs(shows_plan(lanes, demand, share, value), True)
                    if led[1] != led[2] and best[1] != best[2]:
                        swapped = (best, (led[0], led[2], led[1]), *value[2:])
                        self.assertIs(shows_plan(lanes, demand, share, swapped), False)

    def test_wrong_totals(self):
        plan = leader_plan(LANES, (3, 1), (1, 2))
        for total in ((82, 12), (83, 11), (84, 12), (7, 1), (166, 24), [83, 12], 7, None, True, "83/12", (83, 12, 1),
                      (-83, 12), (0, 1)):
            self.assertIs(shows_plan(LANES, (3, 1), (1, 2), (*plan[:3], total)), False)
        self.assertIs(shows_plan(LANES, (3, 1), (1, 2), (*plan[:3], (83, 12))), True)

    def test_of_equal_times_the_greater_index_is_first(self):
        lanes = ((1, 0), (1, 0))
        right = (((1, 1), (1, 1)), ((0, 1), (1, 1)), ((1, 1), (0, 1)), (2, 1))
        self.assertIs(shows_plan(lanes, (2, 1), (1, 2), right), True)
        self.assertIs(shows_plan(lanes, (2, 1), (1, 2), tuple(row[::-1] for row in right[:3]) + right[3:]), False)
        self.assertIs(shows_plan(lanes, (2, 1), (1, 2), (right[0], right[2], right[1], right[3])), False)
        self.assertIs(shows_plan(lanes, (2, 1), (1, 2), (*right[:3], (2, True))), False)
        even = (right[0], ((1, 2), (1, 2)), ((1, 2), (1, 2)), (2, 1))
        self.assertIs(shows_plan(lanes, (2, 1), (1, 2), even), False)

    def test_values_of_all_kinds(self):
        right = leader_plan(LANES, (3, 1), (1, 2))
        for value in (*INTEGER_WRONGS, (), right[:3], (*right, 0), [*right], {0: right}, (None,) * 4, ("x",) * 4,
                      ((),) * 4, (1, 1, 1, 1), ([*right[0]], *right[1:]), (right[0], [*right[1]], *right[2:])):
            self.assertIs(shows_plan(LANES, (3, 1), (1, 2), value), False)


class WrongTest(Raising, unittest.TestCase):
    def test_shares(self):
        for share in (*INTEGER_WRONGS, 1, 0, (2, 1), (101, 100), (3, 2), (-1, 2), (1, 101), (100, 101), (0, 2), (2, 4),
                      (1, 0), (0, -1), (1,), [1, 2], (1, 2, 1), (True, 2), (1, True), (False, 1), ("1", 2), "1/2"):
            self.assert_raises(BadShare, {}, leader_plan, LANES, (3, 1), share)
            self.assert_raises(BadShare, {}, shows_plan, LANES, (3, 1), share, "x")

    def test_the_leftmost_error(self):
        for demand in ((0, 1), (1001, 1), (1, 101), "x", None, 1, (True, 1), [1, 1]):
            self.assert_raises(BadDemand, {}, leader_plan, LANES, demand, (1, 2))
            self.assert_raises(BadDemand, {}, leader_plan, LANES, demand, "x")
            self.assert_raises(BadDemand, {}, shows_plan, LANES, demand, None, None)
        for index, lanes in ((None, ()), (None, [*LANES]), (None, ((0, 0),) * 9), (1, (LANES[0], "x", None)),
                             (0, ((0, True),)), (0, ((101, 0),)), (2, ((0, 0), (1, 1), (0, 1001)))):
            self.assert_raises(BadLanes, {"index": index}, leader_plan, lanes, (1, 1), (1, 2))
            self.assert_raises(BadLanes, {"index": index}, leader_plan, lanes, "x", "x")
            self.assert_raises(BadLanes, {"index": index}, shows_plan, lanes, "x", (1, 2), None)


if __name__ == "__main__":
    unittest.main()
