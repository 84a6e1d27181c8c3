"""The names and arguments of the interface, and its examples as they stand there."""

import importlib
import inspect
import unittest

from tollroads.errors import InvalidText

FUNCTIONS = {
    "nets": {"ways": "net start goal"},
    "routings": {"flows": "net trips routing", "times": "net trips routing", "total": "net trips routing",
                 "potential": "net trips routing"},
    "nettext": {"write_net": "net", "read_net": "text"},
    "rests": {"rest": "net trips tolls", "rest_costs": "net trips tolls", "shows_rest": "net trips tolls value",
              "cheapest_ways": "net trips tolls", "rest_total": "net trips tolls", "takings": "net trips tolls",
              "more_of": "net trips index demand"},
    "bests": {"best": "net trips", "best_total": "net trips", "shows_best": "net trips value",
              "selfish_price": "net trips", "margin_tolls": "net trips"},
    "lanes": {"lane_rest": "lanes demand", "shows_lane_rest": "lanes demand value", "lane_corners": "lanes most"},
    "leaders": {"leader_plan": "lanes demand share", "shows_plan": "lanes demand share value"},
    "parts": {"harmful_roads": "net start goal demand", "best_part": "net start goal demand",
              "closures": "net trips"},
}


class InterfaceTest(unittest.TestCase):
    def test_names_arguments_and_places(self):
        for file, functions in FUNCTIONS.items():
            module = importlib.import_module("tollroads." + file)
            for name, arguments in functions.items():
                with self.subTest(name=name):
                    function = getattr(module, name)
                    self.assertEqual(function.__module__, "tollroads." + file)
                    self.assertEqual(list(inspect.signature(function).parameters), arguments.split())


class ExamplesTest(unittest.TestCase):
    def check(self, got, wanted):
        self.assertEqual(repr(got), wanted)

    def test_nets(self):
        from tollroads.nets import ways
        net = (3, ((0, 1, 1, 2), (0, 2, 0, 5), (1, 2, 3, 0)))
        self.check([ways(net, 0, 2), ways(net, 2, 0)], "[((0, 2), (1,)), ()]")

    def test_routings(self):
        from tollroads.routings import flows, potential, times, total
        net = (3, ((0, 1, 1, 2), (0, 2, 0, 5), (1, 2, 3, 0)))
        trips, routing = ((0, 2, (3, 2)),), ((((0, 2), (1, 1)), ((1,), (1, 2))),)
        self.check([flows(net, trips, routing), times(net, trips, routing), total(net, trips, routing),
                    potential(net, trips, routing)],
                   "[((1, 1), (1, 2), (1, 1)), ((3, 1), (5, 1), (3, 1)), (17, 2), (13, 2)]")

    def test_nettext(self):
        from tollroads.nettext import read_net, write_net
        self.check([write_net((2, ((0, 1, 2, 5),))), read_net('3|0 1 2 5 | 1 2  0 7')],
                   "['2 | 0 1 2 5', (3, ((0, 1, 2, 5), (1, 2, 0, 7)))]")
        with self.assertRaises(InvalidText) as caught:
            read_net('2 | 0 1 101 1')
        self.assertEqual(caught.exception.place, 8)

    def test_rests(self):
        from tollroads.rests import cheapest_ways, more_of, rest, rest_costs, takings
        braess = (4, ((0, 1, 1, 0), (0, 2, 0, 1), (1, 3, 0, 1), (2, 3, 1, 0), (1, 2, 0, 0)))
        trips, none = ((0, 3, (1, 1)),), ((0, 1),) * 5
        tolls = ((1, 2), (0, 1), (0, 1), (1, 2), (0, 1))
        self.check([rest(braess, trips, none), rest_costs(braess, trips, none), cheapest_ways(braess, trips, none),
                    takings(braess, trips, tolls), more_of(braess, trips, 0, (1, 2))],
                   "[((((0, 4, 3), (1, 1)),),), ((2, 1),), (((0, 2), (0, 4, 3), (1, 3)),), (1, 2), ((1, 1),)]")

    def test_bests(self):
        from tollroads.bests import best, best_total, margin_tolls, selfish_price
        braess = (4, ((0, 1, 1, 0), (0, 2, 0, 1), (1, 3, 0, 1), (2, 3, 1, 0), (1, 2, 0, 0)))
        trips = ((0, 3, (1, 1)),)
        self.check([best(braess, trips), best_total(braess, trips), selfish_price(braess, trips),
                    margin_tolls(braess, trips)],
                   "[((((0, 2), (1, 2)), ((1, 3), (1, 2))),), (3, 2), (4, 3), "
                   "((1, 2), (0, 1), (0, 1), (1, 2), (0, 1))]")

    def test_lanes(self):
        from tollroads.lanes import lane_corners, lane_rest
        lanes = ((1, 0), (2, 1), (0, 5))
        self.check([lane_rest(lanes, (10, 1)), lane_corners(lanes, (10, 1))],
                   "[((5, 1), ((5, 1), (2, 1), (3, 1))), "
                   "(((0, 1), (0, 1)), ((1, 1), (1, 1)), ((7, 1), (5, 1)), ((10, 1), (5, 1)))]")

    def test_leaders(self):
        from tollroads.leaders import leader_plan
        self.check(leader_plan(((1, 0), (2, 1), (0, 5)), (3, 1), (1, 2)),
                   "(((13, 6), (5, 6), (0, 1)), ((2, 3), (5, 6), (0, 1)), ((3, 2), (0, 1), (0, 1)), (83, 12))")

    def test_parts(self):
        from tollroads.parts import best_part, closures, harmful_roads
        braess = (4, ((0, 1, 1, 0), (0, 2, 0, 1), (1, 3, 0, 1), (2, 3, 1, 0), (1, 2, 0, 0)))
        self.check([harmful_roads(braess, 0, 3, (1, 1)), best_part(braess, 0, 3, (1, 1)),
                    closures(braess, ((0, 3, (1, 1)),))],
                   "[(4,), ((3, 2), (0, 1, 2, 3)), ((2, 1), (2, 1), (2, 1), (2, 1), (3, 2))]")


if __name__ == "__main__":
    unittest.main()
