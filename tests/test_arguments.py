"""Point 1: values of all kinds in the place of each argument and inside of it, for all functions that have landed."""

import unittest

from tests.support import BRAESS, Raising, SMALL, spoiled, zeros
from tollroads.bests import best, best_total, margin_tolls, selfish_price, shows_best
from tollroads.errors import (BadDemand, BadIndex, BadLanes, BadNet, BadNode, BadRouting, BadShare, BadTolls,
                              BadTrips)
from tollroads.lanes import lane_corners, lane_rest, shows_lane_rest
from tollroads.leaders import leader_plan, shows_plan
from tollroads.nets import ways
from tollroads.nettext import write_net
from tollroads.parts import best_part, closures, harmful_roads
from tollroads.rests import cheapest_ways, more_of, rest, rest_costs, rest_total, shows_rest, takings
from tollroads.routings import flows, potential, times, total

TRIPS = ((0, 2, (3, 2)), (0, 1, (1, 1)))
ROUTING = ((((0, 2), (1, 1)), ((1,), (1, 2))), (((0,), (1, 1)),))
TOLLS = ((1, 1), (0, 1), (1, 2))
AT_REST = ((((0, 4, 3), (1, 1)),),)
BEST = ((((0, 2), (1, 2)), ((1, 3), (1, 2))),)
LANES = ((1, 0), (2, 1), (0, 5))
PLAN = (((13, 6), (5, 6), (0, 1)), ((2, 3), (5, 6), (0, 1)), ((3, 2), (0, 1), (0, 1)), (83, 12))
ONE = ((0, 3, (1, 1)),)

# The class of the error for each kind of argument; "value" stands for the last one of a function `shows_..`.
ERRORS = {"net": BadNet, "node": BadNode, "trips": BadTrips, "routing": BadRouting, "tolls": BadTolls,
          "index": BadIndex, "demand": BadDemand, "lanes": BadLanes, "share": BadShare}

CALLS = (
    (ways, "net node node", (SMALL, 0, 2)),
    (flows, "net trips routing", (SMALL, TRIPS, ROUTING)),
    (times, "net trips routing", (SMALL, TRIPS, ROUTING)),
    (total, "net trips routing", (SMALL, TRIPS, ROUTING)),
    (potential, "net trips routing", (SMALL, TRIPS, ROUTING)),
    (write_net, "net", (SMALL,)),
    (rest, "net trips tolls", (SMALL, TRIPS, TOLLS)),
    (rest_costs, "net trips tolls", (SMALL, TRIPS, TOLLS)),
    (cheapest_ways, "net trips tolls", (SMALL, TRIPS, TOLLS)),
    (rest_total, "net trips tolls", (SMALL, TRIPS, TOLLS)),
    (takings, "net trips tolls", (SMALL, TRIPS, TOLLS)),
    (shows_rest, "net trips tolls value", (BRAESS, ONE, zeros(BRAESS), AT_REST)),
    (more_of, "net trips index demand", (SMALL, TRIPS, 1, (2, 3))),
    (best, "net trips", (SMALL, TRIPS)),
    (best_total, "net trips", (SMALL, TRIPS)),
    (selfish_price, "net trips", (SMALL, TRIPS)),
    (margin_tolls, "net trips", (SMALL, TRIPS)),
    (shows_best, "net trips value", (BRAESS, ONE, BEST)),
    (lane_rest, "lanes demand", (LANES, (3, 1))),
    (lane_corners, "lanes demand", (LANES, (3, 1))),
    (shows_lane_rest, "lanes demand value", (LANES, (4, 1), ((3, 1), ((3, 1), (1, 1), (0, 1))))),
    (leader_plan, "lanes demand share", (LANES, (3, 1), (1, 2))),
    (shows_plan, "lanes demand share value", (LANES, (3, 1), (1, 2), PLAN)),
    (harmful_roads, "net node node demand", (BRAESS, 0, 3, (1, 1))),
    (best_part, "net node node demand", (BRAESS, 0, 3, (1, 1))),
    (closures, "net trips", (SMALL, TRIPS)),
)


def first_strange(row, known, most):
    """The index of the first thing that stands not at the same place of a right tuple, None for no such tuple."""
    if not (isinstance(row, tuple) and 1 <= len(row) <= most):
        return None
    return [index for index, part in enumerate(row) if index >= len(known) or part is not known[index]][0]


def wanted_field(kind, right, path, wrong):
    """The field of the error for a right argument with something wrong at a path."""
    if kind == "net":
        if len(path) == 0 or path[0] == 0:
            return {"index": None}
        return {"index": path[1] if len(path) > 1 else first_strange(wrong[1], right[1], 10)}
    if kind in ("trips", "lanes"):
        return {"index": path[0] if path else first_strange(wrong, right, 3 if kind == "trips" else 8)}
    return {}


class ArgumentsTest(Raising, unittest.TestCase):
    def test_each_place_of_each_argument(self):
        for function, kinds, right in CALLS:
            for place, kind in enumerate(kinds.split()):
                if kind != "value":
                    with self.subTest(function=function.__name__, place=place):
                        self.spoil(function, right, place, kind)

    def spoil(self, function, right, place, kind):
        for path, wrong in spoiled(right[place]):
            arguments = (*right[:place], wrong, *right[place + 1:])
            field = wanted_field(kind, right[place], path, wrong)
            self.assert_raises(ERRORS[kind], field, function, *arguments)

    def test_values_that_are_shown(self):
        for function, kinds, right in CALLS:
            if kinds.endswith("value"):
                with self.subTest(function=function.__name__):
                    self.assertIs(function(*right), True)
                    for _, wrong in spoiled(right[-1]):
                        before = repr(wrong)
                        self.assertIs(function(*right[:-1], wrong), False, wrong)
                        self.assertEqual(repr(wrong), before)

    def test_two_wrong_arguments(self):
        for function, kinds, right in CALLS:
            names = kinds.split()
            for left in range(len(names)):
                for other in range(left + 1, len(names)):
                    with self.subTest(function=function.__name__, left=left, other=other):
                        self.spoil_two(function, right, names, left, other)

    def spoil_two(self, function, right, names, left, other):
        for path, wrong in spoiled(right[left])[::7]:
            for second in ("x", None, True, [], -1, (None,)):
                arguments = [*right]
                arguments[left] = wrong
                arguments[other] = second
                field = wanted_field(names[left], right[left], path, wrong)
                self.assert_raises(ERRORS[names[left]], field, function, *arguments)

    def test_calls_go_on_after_errors(self):
        # A call that raises an error changes nothing, and equal arguments have equal answers: those of these calls
        # are the only right ones.
        for function, kinds, right in CALLS:
            before = repr(right)
            first = function(*right)
            for place in range(len(right)):
                if kinds.split()[place] != "value":
                    with self.assertRaises(ValueError):
                        function(*right[:place], None, *right[place + 1:])
            self.assert_same(function(*right), first)
            self.assertEqual(repr(right), before)


if __name__ == "__main__":
    unittest.main()
