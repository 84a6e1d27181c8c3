"""Point 2: nets and ways."""

import unittest

from tests.support import (BRAESS, CROSSED, INTEGER_WRONGS, Raising, SMALL, TWENTY, TWENTY_ONE, fan, samples,
                           ways_of)
from tollroads.errors import BadNet, BadNode, TooMany
from tollroads.nets import ways

ROAD = (0, 1, 1, 1)


class WaysTest(Raising, unittest.TestCase):
    def test_known_nets(self):
        self.assert_same(ways(BRAESS, 0, 3), ((0, 2), (0, 4, 3), (1, 3)))
        self.assert_same(ways(BRAESS, 1, 3), ((2,), (4, 3)))
        self.assert_same(ways(BRAESS, 3, 0), ())
        self.assert_same(ways(CROSSED, 0, 2), ((0, 2), (0, 3), (1, 2), (1, 3)))
        self.assert_same(ways(SMALL, 1, 2), ((2,),))

    def test_roads_that_lie_side_by_side_and_back(self):
        net = (2, ((1, 0, 0, 0), (0, 1, 1, 1), (0, 1, 1, 1)))
        self.assert_same(ways(net, 0, 1), ((1,), (2,)))
        self.assert_same(ways(net, 1, 0), ((0,),))

    def test_no_node_is_met_twice(self):
        ring = (4, ((0, 1, 0, 0), (1, 2, 0, 0), (2, 0, 0, 0), (2, 3, 0, 0), (1, 3, 0, 0), (3, 1, 0, 0)))
        self.assert_same(ways(ring, 0, 3), ((0, 1, 3), (0, 4)))
        self.assert_same(ways(ring, 1, 0), ((1, 2),))
        self.assert_same(ways(ring, 3, 0), ((5, 1, 2),))

    def test_ways_go_on_to_the_end_only(self):
        # A way ends at its goal, also where roads lead on from there and back.
        net = (3, ((0, 1, 0, 0), (1, 2, 0, 0), (2, 1, 0, 0), (0, 2, 0, 0)))
        self.assert_same(ways(net, 0, 1), ((0,), (3, 2)))
        self.assert_same(ways(net, 0, 2), ((0, 1), (3,)))

    def test_the_longest_way(self):
        line = (6, tuple((node, node + 1, 0, 0) for node in range(5)))
        self.assert_same(ways(line, 0, 5), ((0, 1, 2, 3, 4),))
        self.assert_same(ways(line, 5, 0), ())

    def test_against_an_own_walk(self):
        for net, _, _ in samples(1, 60):
            for start in range(net[0]):
                for goal in range(net[0]):
                    wanted = ways_of(net, start, goal)
                    if start != goal and len(wanted) <= 20:
                        self.assert_same(ways(net, start, goal), tuple(wanted))

    def test_twenty_ways_and_one_more(self):
        self.assertEqual(len(ways(TWENTY, 0, 2)), 20)
        self.assert_same(ways(TWENTY, 0, 2), tuple(ways_of(TWENTY, 0, 2)))
        self.assert_raises(TooMany, {"most": 20}, ways, TWENTY_ONE, 0, 2)
        self.assert_raises(TooMany, {"most": 20}, ways, fan(5, 5), 0, 2)
        self.assertEqual(len(ways(TWENTY_ONE, 0, 1)), 3)
        self.assertEqual(len(ways(TWENTY_ONE, 1, 2)), 7)
        self.assert_raises(BadNode, {}, ways, TWENTY_ONE, 0, 3)


class BadNetTest(Raising, unittest.TestCase):
    def refuse(self, index, net):
        self.assert_raises(BadNet, {"index": index}, ways, net, 0, 1)

    def test_sizes(self):
        for size in range(2, 7):
            self.assert_same(ways((size, (ROAD,)), 0, 1), ((0,),))
        for size in (-1, 0, 1, 7, 60, True, False, None, "2", (2,), [2]):
            self.refuse(None, (size, (ROAD,)))

    def test_numbers_of_roads(self):
        for many in range(1, 11):
            self.assertEqual(len(ways((2, (ROAD,) * many), 0, 1)), many)
        for many in (0, 11, 12):
            self.refuse(None, (2, (ROAD,) * many))
        self.refuse(None, (2, ("x",) * 11))

    def test_values_that_are_no_pair(self):
        for net in (*INTEGER_WRONGS, 2, (2,), (2, (ROAD,), 0), [2, (ROAD,)], (2, [ROAD]), ((ROAD,), 2), "2 | 0 1 1 1",
                    {0: 2, 1: (ROAD,)}, (2, {0: ROAD})):
            self.refuse(None, net)

    def test_bounds_of_a_road(self):
        for road in ((0, 1, 0, 0), (0, 1, 100, 1000), (1, 0, 100, 0), (1, 0, 0, 1000)):
            self.assert_same(ways((2, (ROAD, road)), *road[:2])[-1], (1,))
        for road in ((0, 0, 1, 1), (1, 1, 1, 1), (0, 2, 1, 1), (2, 0, 1, 1), (-1, 1, 1, 1), (0, -1, 1, 1),
                     (0, 1, 101, 1), (0, 1, -1, 1), (0, 1, 1, 1001), (0, 1, 1, -1)):
            self.refuse(0, (2, (road,)))
            self.refuse(1, (2, (ROAD, road, ROAD)))

    def test_kinds_of_a_road(self):
        for road in (*INTEGER_WRONGS, (0, 1, 1), (0, 1, 1, 1, 1), [0, 1, 1, 1], "0111", (0, True, 1, 1),
                     (False, 1, 1, 1), (0, 1, True, 1), (0, 1, 1, True), (0, 1, 1, False), (0, 1, (1, 1), 1),
                     (0, 1, None, 1), (0, 1, "1", 1)):
            self.refuse(2, (2, (ROAD, ROAD, road)))

    def test_nodes_below_the_size(self):
        self.refuse(1, (3, (ROAD, (2, 3, 0, 0))))
        self.assert_same(ways((4, (ROAD, (2, 3, 0, 0))), 2, 3), ((1,),))

    def test_first_bad_road(self):
        self.refuse(1, (2, (ROAD, (0, 0, 1, 1), "x", (0, 1, 101, 0))))
        self.refuse(9, (2, (ROAD,) * 9 + ((0, 1, 101, 0),)))


class BadNodeTest(Raising, unittest.TestCase):
    def test_nodes(self):
        for start, goal in ((0, 0), (2, 2), (0, 3), (3, 0), (-1, 0), (0, -1), (0, 7), (True, 0), (0, True),
                            (False, 1), (1, False), ("0", 1), (0, "1"), (None, 1), (0, None), ((0,), 1), (0, [1]),
                            ({}, 1), (0, {})):
            self.assert_raises(BadNode, {}, ways, SMALL, start, goal)

    def test_the_net_comes_first(self):
        self.assert_raises(BadNet, {"index": None}, ways, (7, (ROAD,)), 0, 0)
        self.assert_raises(BadNet, {"index": 0}, ways, (2, (5,)), "x", None)


if __name__ == "__main__":
    unittest.main()
