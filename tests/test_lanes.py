"""Point 8: rests on lanes, and the corners of their times."""

import unittest
from fractions import Fraction

from tests.support import (INTEGER_WRONGS, Raising, are_flows, is_ratio, lane_times, number, only_least_used, ratio,
                           sample_lanes)
from tollroads.errors import BadDemand, BadLanes
from tollroads.lanes import lane_corners, lane_rest, shows_lane_rest

LANES = ((1, 0), (2, 1), (0, 5))


def demand_within(lanes, time):
    """The flows that the lanes with slopes take before they are slower than a time."""
    return sum((max(time - base, 0) / Fraction(slope) for slope, base in lanes if slope > 0), Fraction(0))


def time_of(lanes, demand):
    """The time at rest, found by trying each lane as the last one that is taken in."""
    flat = [Fraction(base) for slope, base in lanes if slope == 0]
    bases = sorted({base for slope, base in lanes if slope > 0})
    found = flat
    for last in bases:
        used = [(slope, base) for slope, base in lanes if slope > 0 and base <= last]
        time = (demand + sum(Fraction(base, slope) for slope, base in used)) / sum(Fraction(1, slope)
                                                                                   for slope, _ in used)
        if demand_within(lanes, time) == demand:
            found = [*found, time]
    return min(found)


class LaneRestTest(Raising, unittest.TestCase):
    def check(self, lanes, demand):
        time, flows = lane_rest(lanes, demand)
        self.assertTrue(are_flows(lanes, number(demand), flows), (lanes, demand, flows))
        times = lane_times(lanes, flows)
        self.assertTrue(only_least_used(times, flows), (lanes, demand, flows))
        self.assert_same(time, ratio(min(times)))
        self.assert_same(time, ratio(time_of(lanes, number(demand))))
        self.assertIs(shows_lane_rest(lanes, demand, (time, flows)), True)

    def test_many_lanes(self):
        for lanes, demand in sample_lanes(11, 200):
            self.check(lanes, demand)

    def test_bounds(self):
        self.check(((100, 1000),) * 8, (1000, 1))
        self.check(((0, 0),), (1, 100))
        self.check(((0, 1000), (100, 0)), (999, 100))
        self.check(((1, 0),), (1000, 99))

    def test_worked_out_by_hand(self):
        self.assert_same(lane_rest(LANES, (1, 2)), ((1, 2), ((1, 2), (0, 1), (0, 1))))
        self.assert_same(lane_rest(LANES, (1, 1)), ((1, 1), ((1, 1), (0, 1), (0, 1))))
        self.assert_same(lane_rest(LANES, (4, 1)), ((3, 1), ((3, 1), (1, 1), (0, 1))))
        self.assert_same(lane_rest(LANES, (7, 1)), ((5, 1), ((5, 1), (2, 1), (0, 1))))
        self.assert_same(lane_rest(((3, 7),), (2, 5)), ((41, 5), ((2, 5),)))
        self.assert_same(lane_rest(((1, 4), (0, 4), (2, 5)), (3, 1)), ((4, 1), ((0, 1), (3, 1), (0, 1))))
        self.assert_same(lane_rest(((2, 1), (3, 0), (6, 2)), (6, 1)), ((41, 6), ((35, 12), (41, 18), (29, 36))))


class ShowsLaneRestTest(Raising, unittest.TestCase):
    def test_moved_flows(self):
        for lanes, demand in sample_lanes(12, 80):
            time, flows = lane_rest(lanes, demand)
            for source, flow in enumerate(flows):
                for target in range(len(lanes)):
                    moved = [number(part) for part in flows]
                    size = min(moved[source], Fraction(1, 30))
                    moved[source] -= size
                    moved[target] += size
                    value = tuple(map(ratio, moved))
                    times = lane_times(lanes, value)
                    wanted = only_least_used(times, value) and ratio(min(times)) == time
                    self.assertIs(shows_lane_rest(lanes, demand, (time, value)), wanted)

    def test_wrong_times_and_sums(self):
        right = ((3, 1), ((3, 1), (1, 1), (0, 1)))
        self.assertIs(shows_lane_rest(LANES, (4, 1), right), True)
        for time in ((2, 1), (4, 1), (301, 100), (0, 1), (5, 1), (6, 2), (-3, 1)):
            self.assertIs(shows_lane_rest(LANES, (4, 1), (time, right[1])), False)
        for demand in ((3, 1), (5, 1), (401, 100)):
            self.assertIs(shows_lane_rest(LANES, demand, right), False)
        for flows in (((3, 1), (1, 1)), ((3, 1), (1, 1), (0, 1), (0, 1)), ((4, 1), (0, 1), (0, 1)),
                      ((2, 1), (2, 1), (0, 1)), ((3, 1), (2, 1), (-1, 1)), ((0, 1), (0, 1), (4, 1)),
                      ((6, 2), (1, 1), (0, 1)), ((3, 1), (1, 1), (0, 2))):
            self.assertIs(shows_lane_rest(LANES, (4, 1), (right[0], flows)), False)

    def test_all_rests_of_flat_lanes(self):
        lanes = ((0, 5), (1, 0), (0, 5), (3, 5))
        for top in range(0, 31):
            flows = (ratio(Fraction(top, 10)), (5, 1), ratio(3 - Fraction(top, 10)), (0, 1))
            self.assertIs(shows_lane_rest(lanes, (8, 1), ((5, 1), flows)), True)
        self.assertIs(shows_lane_rest(lanes, (8, 1), ((5, 1), ((1, 1), (5, 1), (1, 1), (1, 1)))), False)
        self.assertIs(shows_lane_rest(lanes, (8, 1), ((5, 1), ((2, 1), (4, 1), (2, 1), (0, 1)))), False)

    def test_values_of_all_kinds(self):
        for value in (*INTEGER_WRONGS, (), ((5, 1),), [(1, 2), ((1, 2), (0, 1), (0, 1))],
                      ((1, 2), [(1, 2), (0, 1), (0, 1)]), ((1, 2), ((1, 2), (0, 1), (0, 1)), 0),
                      ((2, 4), ((1, 2), (0, 1), (0, 1))), ([1, 2], ((1, 2), (0, 1), (0, 1))),
                      ((True, 2), ((1, 2), (0, 1), (0, 1))),
                      ((1, 2), ((True, 2), (0, 1), (0, 1))), ((1, 2), ((1, 2), (False, 1), (0, 1))),
                      ((1, 2), ((1, 2), (0, True), (0, 1))), ((1, 2), ((1, 2), 0, 0)), ((1, 2), ((1, 2), None, None))):
            self.assertIs(shows_lane_rest(LANES, (1, 2), value), False)
        self.assertIs(shows_lane_rest(LANES, (1, 2), ((1, 2), ((1, 2), (0, 1), (0, 1)))), True)
        for value in (((1, True), ((1, 1), (0, 1), (0, 1))), ((1, 1), ((1, True), (0, 1), (0, 1))),
                      ((1, 1), ((1, 1), (0, 1), (False, 1)))):
            self.assertIs(shows_lane_rest(LANES, (1, 1), value), False)
        self.assertIs(shows_lane_rest(LANES, (1, 1), ((1, 1), ((1, 1), (0, 1), (0, 1)))), True)


class CornersTest(Raising, unittest.TestCase):
    def test_worked_out_by_hand(self):
        for lanes, most, corners in (
                (((3, 7),), (2, 5), (((0, 1), (7, 1)), ((2, 5), (41, 5)))),
                (((0, 3),), (9, 1), (((0, 1), (3, 1)), ((9, 1), (3, 1)))),
                (LANES, (7, 1), (((0, 1), (0, 1)), ((1, 1), (1, 1)), ((7, 1), (5, 1)))),
                (LANES, (1, 1), (((0, 1), (0, 1)), ((1, 1), (1, 1)))),
                (LANES, (99, 100), (((0, 1), (0, 1)), ((99, 100), (99, 100)))),
                (LANES, (2, 1), (((0, 1), (0, 1)), ((1, 1), (1, 1)), ((2, 1), (5, 3)))),
                (LANES, (6, 1), (((0, 1), (0, 1)), ((1, 1), (1, 1)), ((6, 1), (13, 3)))),
                # Lanes with equal bases come in at once.
                (((1, 2), (1, 2), (4, 2)), (9, 1), (((0, 1), (2, 1)), ((9, 1), (6, 1)))),
                (((1, 0), (1, 2), (2, 2)), (7, 1), (((0, 1), (0, 1)), ((2, 1), (2, 1)), ((7, 1), (4, 1)))),
                # A lane without a slope ends the growth, also where lanes with its base stand beside it.
                (((1, 0), (3, 2), (0, 2), (0, 2), (5, 4), (0, 3)), (7, 1),
                 (((0, 1), (0, 1)), ((2, 1), (2, 1)), ((7, 1), (2, 1)))),
                (((0, 2), (1, 2), (1, 1), (1, 7)), (7, 1), (((0, 1), (1, 1)), ((1, 1), (2, 1)), ((7, 1), (2, 1)))),
                (((0, 2), (1, 2), (1, 3)), (7, 1), (((0, 1), (2, 1)), ((7, 1), (2, 1)))),
                (((2, 1), (3, 0), (6, 2)), (6, 1),
                 (((0, 1), (0, 1)), ((1, 3), (1, 1)), ((7, 6), (2, 1)), ((6, 1), (41, 6))))):
            self.assert_same(lane_corners(lanes, most), corners)

    def test_corners_are_all_of_them(self):
        for lanes, most in sample_lanes(13, 150):
            corners = lane_corners(lanes, most)
            top = number(most)
            flat = min([base for slope, base in lanes if slope == 0], default=10 ** 6)
            bases = {base for slope, base in lanes if base <= flat}
            inner = {demand_within(lanes, base) for base in bases}
            wanted = [Fraction(0), *sorted(demand for demand in inner if 0 < demand < top), top]
            self.assertEqual([number(demand) for demand, _ in corners], wanted, (lanes, most))
            self.assert_same(corners[0], ((0, 1), (min(base for _, base in lanes), 1)))
            for demand, time in corners[1:]:
                self.assertEqual(number(time), time_of(lanes, number(demand)))
            self.assertTrue(all(is_ratio(demand) and is_ratio(time) for demand, time in corners))
            self.assert_same(corners[-1], (most, lane_rest(lanes, most)[0]))

    def test_the_time_grows_straight_and_slower(self):
        for lanes, most in sample_lanes(14, 60):
            corners = [(number(demand), number(time)) for demand, time in lane_corners(lanes, most)]
            grow = [(after[1] - before[1]) / (after[0] - before[0]) for before, after in zip(corners, corners[1:])]
            self.assertEqual(sorted(set(grow), reverse=True), grow)
            for (low, time), (high, _), rate in zip(corners, corners[1:], grow):
                self.assertEqual(time_of(lanes, (low + high) / 2), time + rate * (high - low) / 2)


class WrongTest(Raising, unittest.TestCase):
    def refuse(self, index, lanes):
        self.assert_raises(BadLanes, {"index": index}, lane_rest, lanes, (1, 1))
        self.assert_raises(BadLanes, {"index": index}, lane_rest, lanes, "x")
        self.assert_raises(BadLanes, {"index": index}, shows_lane_rest, lanes, None, ())
        self.assert_raises(BadLanes, {"index": index}, lane_corners, lanes, 5)

    def test_lanes(self):
        for lanes in (*INTEGER_WRONGS, (), ((1, 1),) * 9, [(1, 1)], {0: (1, 1)}, "x"):
            if lanes != (0,):
                self.refuse(None, lanes)
        for lane in (*INTEGER_WRONGS, (1,), (1, 1, 1), [1, 1], (101, 0), (-1, 0), (0, 1001), (0, -1), (True, 1),
                     (1, False), ("1", 1), (1, None), ((1, 1), 1)):
            self.refuse(0, (lane,))
            self.refuse(2, ((1, 1), (0, 0), lane, "x"))
            self.refuse(7, ((1, 1),) * 7 + (lane,))

    def test_demands(self):
        for demand in (*INTEGER_WRONGS, (0, 1), (1001, 1), (1, 101), (-1, 1), (2, 2), (1, 0), (1, -1), (1,), [1, 1],
                       (1, 1, 1), (True, 1), (1, True), ("1", 1)):
            self.assert_raises(BadDemand, {}, lane_rest, LANES, demand)
            self.assert_raises(BadDemand, {}, shows_lane_rest, LANES, demand, "x")
            self.assert_raises(BadDemand, {}, lane_corners, LANES, demand)
        for demand in ((1000, 1), (1, 100), (1000, 99)):
            self.assert_same(lane_corners(LANES, demand)[-1][0], demand)


if __name__ == "__main__":
    unittest.main()
