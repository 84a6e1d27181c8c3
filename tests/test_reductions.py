"""Point 11: reductions of nets to a single road."""

import random
import unittest
from functools import lru_cache

from tests.support import (BRAESS, CROSSED, FLAT, FREE, INTEGER_WRONGS, PIGOU, Raising, SHARED, SMALL, TWENTY,
                           TWENTY_ONE, sample_net, ways_of)
from tollroads.errors import BadNet, BadNode, NoWay
from tollroads.parts import harmful_roads
from tollroads.reductions import reduction, shows_reduction

BOTH = (reduction, shows_reduction)


def call(function, *arguments):
    """Call one of the two functions, `shows_reduction` with some last argument."""
    return function(*arguments) if function is reduction else function(*arguments, None)


def roads_of(net, start, goal):
    """The roads that lie on ways, as a set of triples (index, start, end)."""
    return frozenset((road, *net[1][road][:2]) for way in ways_of(net, start, goal) for road in way)


def steps_from(roads, start, goal):
    """All steps that the document allows, with the roads behind them."""
    found = []
    for i, one, end in roads:
        for j, other, last in roads:
            if i < j and (one, end) == (other, last):
                found.append((("side", i, j), roads - {(j, other, last)}))
            if end == other and end not in (start, goal):
                if [row[0] for row in roads if row[1] == end] == [j] and [r[0] for r in roads if r[2] == end] == [i]:
                    found.append((("row", i, j), roads - {(i, one, end), (j, other, last)} | {(i, one, last)}))
    return sorted(found)


def all_reductions(net, start, goal, most=400):
    """Some of all reductions, found by trying all orders of steps; () if there are none."""
    @lru_cache(maxsize=None)
    def reducible(roads):
        return len(roads) == 1 or any(reducible(left) for _, left in steps_from(roads, start, goal))

    found = []

    def go_on(roads, steps):
        if len(found) < most and reducible(roads):
            if len(roads) == 1:
                found.append(steps)
            for step, left in steps_from(roads, start, goal):
                go_on(left, (*steps, step))

    go_on(roads_of(net, start, goal), ())
    return found


def is_reduction(net, start, goal, value):
    """Whether a tuple of triples is a reduction."""
    roads = roads_of(net, start, goal)
    for step in value:
        known = dict(steps_from(roads, start, goal))
        if step not in known:
            return False
        roads = known[step]
    return len(roads) == 1


def sample_ends(seed, many):
    """So many triples (net, start, goal) with a way; a third of the nets are reducible by their making, a third not."""
    chance = random.Random(seed)
    found = []
    while len(found) < many:
        net = (sample_net(chance, True), grown_net(chance, [(0, 1)], 2),
               grown_net(chance, [road[:2] for road in BRAESS[1]], 4))[len(found) % 3]
        ends = [(start, goal) for start in range(net[0]) for goal in range(net[0])
                if start != goal and ways_of(net, start, goal)]
        if ends:
            found.append((net, *max(ends, key=lambda pair: len(ways_of(net, *pair)))))
    return found


def grown_net(chance, roads, size):
    """A net that grows out of these roads by doubling roads and cutting them in two."""
    roads = list(roads)
    for _ in range(chance.randint(0, 10 - len(roads))):
        at = chance.randrange(len(roads))
        if chance.random() < 0.5 and size < 6:
            start, end = roads[at]
            roads[at] = (start, size)
            roads.insert(chance.randint(0, len(roads)), (size, end))
            size += 1
        else:
            roads.insert(chance.randint(0, len(roads)), roads[at])
    return (size, tuple((*road, chance.randint(0, 9), chance.randint(0, 9)) for road in roads))


class ReductionTest(Raising, unittest.TestCase):
    def check(self, net, start, goal):
        value = reduction(net, start, goal)
        known = all_reductions(net, start, goal, 1)
        if not known:
            self.assertIs(value, None, (net, start, goal))
        else:
            self.assertIs(type(value), tuple, (net, start, goal))
            self.assertTrue(is_reduction(net, start, goal, value), (net, start, goal, value))
        self.assertIs(shows_reduction(net, start, goal, value), True)
        self.assertIs(shows_reduction(net, start, goal, None), not known)
        return value

    def test_many_nets(self):
        found = [self.check(*case) is None for case in sample_ends(41, 300)]
        self.assertTrue(60 < sum(found) < 240, sum(found))

    def test_known_nets(self):
        for net, start, goal, reducible in (
                (BRAESS, 0, 3, False), (BRAESS, 0, 1, True), (BRAESS, 1, 3, True), (SMALL, 0, 2, True),
                (PIGOU, 0, 1, True), (FLAT, 0, 1, True), (FREE, 0, 1, True), (CROSSED, 0, 2, True),
                (CROSSED, 1, 2, True), (SHARED, 0, 4, True), (SHARED, 1, 3, True), (SHARED, 1, 4, False),
                (TWENTY, 0, 2, True)):
            self.assertEqual(self.check(net, start, goal) is not None, reducible, (net, start, goal))

    def test_one_road(self):
        self.assert_same(reduction((2, ((0, 1, 3, 4),)), 0, 1), ())
        self.assertIs(shows_reduction((2, ((0, 1, 3, 4),)), 0, 1, ()), True)
        self.assertIs(shows_reduction((2, ((0, 1, 3, 4),)), 0, 1, None), False)

    def test_one_step(self):
        self.assert_same(reduction((2, ((0, 1, 3, 4), (1, 0, 0, 0), (0, 1, 0, 0))), 0, 1), (("side", 0, 2),))
        self.assert_same(reduction((3, ((1, 2, 3, 4), (0, 1, 0, 0))), 0, 2), (("row", 1, 0),))
        self.assert_same(reduction((3, ((0, 1, 3, 4), (1, 2, 0, 0))), 0, 2), (("row", 0, 1),))

    def test_roads_on_no_way_do_not_count(self):
        # Road 0 leads away from the middle node, road 3 back into it, road 4 from the goal on.
        net = (5, ((1, 3, 0, 0), (0, 1, 1, 1), (1, 2, 0, 0), (2, 1, 0, 0), (2, 4, 0, 0)))
        self.assert_same(reduction(net, 0, 2), (("row", 1, 2),))
        self.assertIs(shows_reduction(net, 0, 2, (("row", 1, 0),)), False)
        self.assertIs(shows_reduction(net, 0, 2, (("row", 1, 2), ("row", 1, 4))), False)

    def test_two_directions_are_not_side_by_side(self):
        # Roads 2 and 3 join the same nodes, but in both directions, and both lie on ways.
        net = (4, ((0, 1, 0, 0), (0, 2, 0, 0), (1, 2, 0, 0), (2, 1, 0, 0), (1, 3, 0, 0), (2, 3, 0, 0)))
        self.assertIs(self.check(net, 0, 3), None)
        for step in (("side", 2, 3), ("row", 2, 3), ("row", 3, 2)):
            self.assertIs(shows_reduction(net, 0, 3, (step,)), False)

    def test_more_than_twenty_ways(self):
        value = self.check(TWENTY_ONE, 0, 2)
        self.assertEqual(len(value), 9)
        most = (6, tuple((start, start + 1, 0, 0) for start in range(5) for _ in range(2)))
        self.assertEqual(len(self.check(most, 0, 5)), 9)
        wide = (6, (*((0, 1, 0, 0),) * 3, *((1, 2, 0, 0),) * 3, *((2, 3, 0, 0),) * 3, (0, 3, 0, 0)))
        self.assertEqual(len(self.check(wide, 0, 3)), 9)

    def test_where_there_is_one_no_road_harms(self):
        tried = 0
        for net, start, goal in sample_ends(42, 120):
            if reduction(net, start, goal) is not None and len(ways_of(net, start, goal)) <= 20:
                tried += 1
                for demand in ((1, 2), (3, 1), (10, 1)):
                    self.assertEqual(harmful_roads(net, start, goal, demand), ())
        self.assertGreater(tried, 50)


class ShowsReductionTest(Raising, unittest.TestCase):
    def test_all_orders_of_steps(self):
        for net, start, goal in [*sample_ends(43, 60), (CROSSED, 0, 2), (TWENTY, 0, 2), (SMALL, 0, 2)]:
            for value in all_reductions(net, start, goal, 60):
                self.assertIs(shows_reduction(net, start, goal, value), True)

    def test_changed_steps(self):
        for net, start, goal in sample_ends(44, 60):
            for value in all_reductions(net, start, goal, 3):
                for near in self.near(net, value):
                    wanted = is_reduction(net, start, goal, near)
                    self.assertIs(shows_reduction(net, start, goal, near), wanted, (net, start, goal, near))

    def near(self, net, value):
        found = [value[1:], value[:-1], value[::-1], (*value, *value[-1:]), (*value, ("side", 0, 1))]
        for at, (word, i, j) in enumerate(value):
            other = "row" if word == "side" else "side"
            for step in ((word, j, i), (other, i, j), (other, j, i), (word, i, i), (word, i, (j + 1) % len(net[1])),
                         (word, (i + 1) % len(net[1]), j)):
                found.append((*value[:at], step, *value[at + 1:]))
        return found

    def test_rows_need_a_node_of_their_own(self):
        # A second road begins at the middle node, or ends there, and lies on a way.
        forked = (4, ((0, 1, 0, 0), (1, 2, 0, 0), (1, 3, 0, 0), (3, 2, 0, 0)))
        self.assertIs(shows_reduction(forked, 0, 2, (("row", 0, 1), ("row", 0, 2), ("side", 0, 3))), False)
        self.assertIs(shows_reduction(forked, 0, 2, (("row", 2, 3), ("side", 1, 2), ("row", 0, 1))), True)
        joined = (4, ((0, 1, 0, 0), (0, 3, 0, 0), (3, 1, 0, 0), (1, 2, 0, 0)))
        self.assertIs(shows_reduction(joined, 0, 2, (("row", 0, 3), ("row", 1, 2), ("side", 0, 1))), False)
        self.assertIs(shows_reduction(joined, 0, 2, (("row", 1, 2), ("side", 0, 1), ("row", 0, 3))), True)

    def test_the_index_that_is_left(self):
        net = (3, ((0, 2, 0, 0), (1, 2, 0, 0), (0, 1, 0, 0)))
        self.assertIs(shows_reduction(net, 0, 2, (("row", 2, 1), ("side", 0, 2))), True)
        for wrong in ((("row", 1, 2), ("side", 0, 1)), (("row", 2, 1), ("side", 0, 1)), (("row", 2, 1), ("side", 2, 0)),
                      (("row", 2, 1),), (("side", 0, 2), ("row", 2, 1))):
            self.assertIs(shows_reduction(net, 0, 2, wrong), False)

    def test_values_of_all_kinds(self):
        net = (2, ((0, 1, 0, 0), (0, 1, 0, 0)))
        self.assertIs(shows_reduction(net, 0, 1, (("side", 0, 1),)), True)
        for value in (*INTEGER_WRONGS, [("side", 0, 1)], (["side", 0, 1],), ("side", 0, 1), (("side", False, 1),),
                      (("side", 0, True),), (("side", False, True),), (("side", 0),), (("side", 0, 1, 2),),
                      (("side", 0, "1"),), (("Side", 0, 1),), ((b"side", 0, 1),), ((0, 0, 1),), ((["side"], 0, 1),),
                      (("side", [0], 1),), (("side", {}, ()),), (("side", -2, -1),), (("side", 0, 2),),
                      (("side", 2, 3),), ({"side": 0},), "side", ("side",), (None,), (("side", 0, 1), None)):
            self.assertIs(shows_reduction(net, 0, 1, value), False, value)
            self.assertIs(shows_reduction(BRAESS, 0, 3, value), value is None, value)
        for word in ("Row", "", "x", "side", None, 0, True, ("row",), ["row"], {}):
            self.assertIs(shows_reduction(SMALL, 0, 2, ((word, 0, 2), ("side", 0, 1))), False, word)
            self.assertIs(shows_reduction((3, ((0, 1, 0, 0), (1, 2, 0, 0))), 0, 2, ((word, 0, 1),)), False, word)


class WrongTest(Raising, unittest.TestCase):
    def test_nets(self):
        for function in BOTH:
            self.assert_raises(BadNet, {"index": None}, call, function, None, 0, 1)
            self.assert_raises(BadNet, {"index": None}, call, function, (2, ()), "x", "x")
            self.assert_raises(BadNet, {"index": 1}, call, function, (2, ((0, 1, 0, 0), "x")), 0, 0)

    def test_nodes(self):
        for function in BOTH:
            for start, goal in ((0, 0), (0, 4), (4, 0), (-1, 3), (0, -1), (False, 3), (0, True), ("0", 3), (None, 3),
                                (0, (3,)), ([], 3), (0, {}), ("x", "x")):
                self.assert_raises(BadNode, {}, call, function, BRAESS, start, goal)
                self.assert_raises(BadNode, {}, call, function, TWENTY_ONE, start, start)

    def test_no_way(self):
        for function in BOTH:
            self.assert_raises(NoWay, {}, call, function, BRAESS, 3, 0)
            self.assert_raises(NoWay, {}, call, function, BRAESS, 2, 1)
            self.assert_raises(NoWay, {}, call, function, (3, ((0, 1, 0, 0), (2, 1, 0, 0))), 0, 2)


if __name__ == "__main__":
    unittest.main()
