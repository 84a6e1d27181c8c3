"""The names and arguments of the interface, and its examples as they stand there."""

import importlib
import inspect
import unittest

from tollroads.errors import InvalidText

FUNCTIONS = {
    "nets": {"ways": "net start goal"},
    "routings": {"flows": "net trips routing", "times": "net trips routing", "total": "net trips routing",
                 "potential": "net trips routing"},
    "nettext": {"write_net": "net", "read_net": "text"},
    "rests": {"rest": "net trips tolls", "rest_costs": "net trips tolls", "shows_rest": "net trips tolls value",
              "cheapest_ways": "net trips tolls", "rest_total": "net trips tolls", "takings": "net trips tolls",
              "more_of": "net trips index demand"},
    "bests": {"best": "net trips", "best_total": "net trips", "shows_best": "net trips value",
              "selfish_price": "net trips", "margin_tolls": "net trips"},
    "lanes": {"lane_rest": "lanes demand", "shows_lane_rest": "lanes demand value", "lane_corners": "lanes most"},
    "leaders": {"leader_plan": "lanes demand share", "shows_plan": "lanes demand share value"},
    "parts": {"harmful_roads": "net start goal demand", "best_part": "net start goal demand",
              "closures": "net trips"},
    "reductions": {"reduction": "net start goal", "shows_reduction": "net start goal value"},
    "tollsets": {"least_tolls": "net trips routing", "toll_paper": "net trips routing",
                 "shows_tolls": "net trips routing value", "shows_toll_paper": "net trips routing value",
                 "fewest_tolls": "net trips routing"},
    "games": {"player_times": "game state", "loads": "game state", "company": "game state",
              "game_total": "game state", "game_potential": "game state"},
    "standings": {"better_steps": "game state", "best_answers": "game state", "stands": "game state",
                  "standing_states": "game", "walk_to_standing": "game state", "shows_walk": "game state value",
                  "best_state": "game", "lowest_state": "game", "standing_prices": "game"},
    "heavies": {"heavy_standing": "weights game", "heavy_ring": "weights game",
                "shows_heavy_ring": "weights game value"},
    "owners": {"shared_rest": "net owners", "shows_shared": "net owners value", "owner_totals": "net owners"},
    "limits": {"limited_rest": "net trips limits", "shows_limited": "net trips limits value"},
    "wishes": {"wished_rest": "net wishes", "shows_wished": "net wishes value"},
    "kinds": {"kinds_rest": "net kinds tolls", "shows_kinds": "net kinds tolls value"},
    "bottlenecks": {"bottleneck_rest": "some", "bottleneck_cost": "some", "queue_at": "some time",
                    "passed_by": "some time", "cost_at": "some time", "toll_at": "some time",
                    "bottleneck_totals": "some"},
    "slots": {"slot_plan": "wishes capacity early late", "slot_prices": "wishes capacity early late",
              "shows_prices": "wishes capacity early late value"},
    "walks": {"fewest_steps": "game state", "longest_walk": "game", "shows_longest": "game value"},
    "advice": {"best_advice": "game", "advice_paper": "game", "shows_advice": "game value",
               "shows_advice_paper": "game value"},
    "statetolls": {"state_tolls": "game state", "shows_state_tolls": "game state value", "state_paper": "game state",
                   "shows_state_paper": "game state value"},
    "buildings": {"shares": "building state", "building_states": "building", "building_prices": "building",
                  "cheapest_building": "building"},
    "widenings": {"widened": "net index slope", "best_widening": "net trips budget",
                  "amount_range": "net trips index way"},
    "gametext": {"write_game": "game", "read_game": "text"},
}
TOWN = {"put": "name trip", "drop": "name", "get": "name", "names": "", "toll": "index size", "undo": "", "costs": "",
        "income": ""}


class InterfaceTest(unittest.TestCase):
    def test_names_arguments_and_places(self):
        for file, functions in FUNCTIONS.items():
            module = importlib.import_module("tollroads." + file)
            for name, arguments in functions.items():
                with self.subTest(name=name):
                    function = getattr(module, name)
                    self.assertEqual(function.__module__, "tollroads." + file)
                    self.assertEqual(list(inspect.signature(function).parameters), arguments.split())

    def test_the_methods_of_a_town(self):
        town = importlib.import_module("tollroads.town").Town
        self.assertEqual(town.__module__, "tollroads.town")
        self.assertEqual(list(inspect.signature(town).parameters), ["net"])
        for name, arguments in TOWN.items():
            with self.subTest(name=name):
                # Each method stands in the class itself.
                self.assertIn(name, vars(town))
                self.assertEqual(list(inspect.signature(getattr(town, name)).parameters), ["self", *arguments.split()])


class ExamplesTest(unittest.TestCase):
    def check(self, got, wanted):
        self.assertEqual(repr(got), wanted)

    def test_nets(self):
        from tollroads.nets import ways
        net = (3, ((0, 1, 1, 2), (0, 2, 0, 5), (1, 2, 3, 0)))
        self.check([ways(net, 0, 2), ways(net, 2, 0)], "[((0, 2), (1,)), ()]")

    def test_routings(self):
        from tollroads.routings import flows, potential, times, total
        net = (3, ((0, 1, 1, 2), (0, 2, 0, 5), (1, 2, 3, 0)))
        trips, routing = ((0, 2, (3, 2)),), ((((0, 2), (1, 1)), ((1,), (1, 2))),)
        self.check([flows(net, trips, routing), times(net, trips, routing), total(net, trips, routing),
                    potential(net, trips, routing)],
                   "[((1, 1), (1, 2), (1, 1)), ((3, 1), (5, 1), (3, 1)), (17, 2), (13, 2)]")

    def test_nettext(self):
        from tollroads.nettext import read_net, write_net
        self.check([write_net((2, ((0, 1, 2, 5),))), read_net('3|0 1 2 5 | 1 2  0 7')],
                   "['2 | 0 1 2 5', (3, ((0, 1, 2, 5), (1, 2, 0, 7)))]")
        with self.assertRaises(InvalidText) as caught:
            read_net('2 | 0 1 101 1')
        self.assertEqual(caught.exception.place, 8)

    def test_rests(self):
        from tollroads.rests import cheapest_ways, more_of, rest, rest_costs, takings
        braess = (4, ((0, 1, 1, 0), (0, 2, 0, 1), (1, 3, 0, 1), (2, 3, 1, 0), (1, 2, 0, 0)))
        trips, none = ((0, 3, (1, 1)),), ((0, 1),) * 5
        tolls = ((1, 2), (0, 1), (0, 1), (1, 2), (0, 1))
        self.check([rest(braess, trips, none), rest_costs(braess, trips, none), cheapest_ways(braess, trips, none),
                    takings(braess, trips, tolls), more_of(braess, trips, 0, (1, 2))],
                   "[((((0, 4, 3), (1, 1)),),), ((2, 1),), (((0, 2), (0, 4, 3), (1, 3)),), (1, 2), ((1, 1),)]")

    def test_bests(self):
        from tollroads.bests import best, best_total, margin_tolls, selfish_price
        braess = (4, ((0, 1, 1, 0), (0, 2, 0, 1), (1, 3, 0, 1), (2, 3, 1, 0), (1, 2, 0, 0)))
        trips = ((0, 3, (1, 1)),)
        self.check([best(braess, trips), best_total(braess, trips), selfish_price(braess, trips),
                    margin_tolls(braess, trips)],
                   "[((((0, 2), (1, 2)), ((1, 3), (1, 2))),), (3, 2), (4, 3), "
                   "((1, 2), (0, 1), (0, 1), (1, 2), (0, 1))]")

    def test_lanes(self):
        from tollroads.lanes import lane_corners, lane_rest
        lanes = ((1, 0), (2, 1), (0, 5))
        self.check([lane_rest(lanes, (10, 1)), lane_corners(lanes, (10, 1))],
                   "[((5, 1), ((5, 1), (2, 1), (3, 1))), "
                   "(((0, 1), (0, 1)), ((1, 1), (1, 1)), ((7, 1), (5, 1)), ((10, 1), (5, 1)))]")

    def test_leaders(self):
        from tollroads.leaders import leader_plan
        self.check(leader_plan(((1, 0), (2, 1), (0, 5)), (3, 1), (1, 2)),
                   "(((13, 6), (5, 6), (0, 1)), ((2, 3), (5, 6), (0, 1)), ((3, 2), (0, 1), (0, 1)), (83, 12))")

    def test_parts(self):
        from tollroads.parts import best_part, closures, harmful_roads
        braess = (4, ((0, 1, 1, 0), (0, 2, 0, 1), (1, 3, 0, 1), (2, 3, 1, 0), (1, 2, 0, 0)))
        self.check([harmful_roads(braess, 0, 3, (1, 1)), best_part(braess, 0, 3, (1, 1)),
                    closures(braess, ((0, 3, (1, 1)),))],
                   "[(4,), ((3, 2), (0, 1, 2, 3)), ((2, 1), (2, 1), (2, 1), (2, 1), (3, 2))]")

    def test_reductions(self):
        from tollroads.reductions import reduction, shows_reduction
        braess = (4, ((0, 1, 1, 0), (0, 2, 0, 1), (1, 3, 0, 1), (2, 3, 1, 0), (1, 2, 0, 0)))
        self.check([reduction(braess, 0, 3), reduction((2, ((0, 1, 1, 1), (0, 1, 2, 2))), 0, 1)],
                   "[None, (('side', 0, 1),)]")
        self.check(shows_reduction(braess, 0, 3, None), "True")

    def test_tollsets(self):
        from tollroads.tollsets import fewest_tolls, least_tolls, toll_paper
        net = (3, ((0, 1, 1, 2), (0, 2, 0, 5), (1, 2, 3, 0)))
        trips, routing = ((0, 2, (3, 2)),), ((((0, 2), (1, 1)), ((1,), (1, 2))),)
        self.check([least_tolls(net, trips, routing), fewest_tolls(net, trips, routing)],
                   "[((1, 2), ((0, 1), (1, 1), (0, 1))), ((1,), ((0, 1), (1, 1), (0, 1)))]")
        self.check(toll_paper(net, trips, routing)[0], "True")

    def test_games(self):
        from tollroads.games import company, game_potential, game_total, loads, player_times
        game = (3, ((0, 1, (1, 2)), (1, 2, (0, 0)), (0, 2, (2, 5))), ((0, 2), (0, 2)))
        state = ((0, 1), (0, 1))
        self.check([player_times(game, state), loads(game, state), company(game, state), game_total(game, state),
                    game_potential(game, state)],
                   "[(2, 2), (2, 2, 0), ((1,), (0,)), 4, 3]")

    def test_standings(self):
        from tollroads.standings import best_answers, best_state, standing_prices, standing_states
        game = (3, ((0, 1, (1, 2)), (1, 2, (0, 0)), (0, 2, (2, 5))), ((0, 2), (0, 2)))
        self.check([standing_states(game), best_state(game), standing_prices(game), best_answers(game, ((2,), (2,)))],
                   "[(((0, 1), (0, 1)), ((0, 1), (2,)), ((2,), (0, 1))), (3, ((0, 1), (2,))), ((1, 1), (4, 3)), "
                   "(((0, 1),), ((0, 1),))]")

    def test_heavies(self):
        from tollroads.heavies import heavy_ring, heavy_standing
        tables = ((13, 26, 39), (34, 35, 36), (45, 48, 53), (3, 12, 27), (6, 24, 54), (47, 94, 141))
        ends = ((0, 1), (1, 3), (0, 2), (2, 3), (1, 2), (0, 3))
        game = (4, tuple([(*end, table) for end, table in zip(ends, tables)]), ((0, 3), (0, 3)))
        self.check([heavy_standing((1, 2), game), heavy_ring((1, 2), game) is None], "[(), False]")

    def test_owners(self):
        from tollroads.owners import owner_totals, shared_rest
        lanes = (2, ((0, 1, 1, 0), (0, 1, 0, 4)))
        self.check([shared_rest(lanes, ((0, 1, (6, 1)),)), owner_totals(lanes, ((0, 1, (6, 1)),))],
                   "[((((0,), (2, 1)), ((1,), (4, 1))),), ((20, 1),)]")

    def test_limits(self):
        from tollroads.limits import limited_rest
        lanes = (2, ((0, 1, 1, 0), (0, 1, 0, 4)))
        self.check([limited_rest(lanes, ((0, 1, (6, 1)),), ((1, 1), None)),
                    limited_rest(lanes, ((0, 1, (6, 1)),), ((1, 1), (2, 1)))],
                   "[(((((0,), (1, 1)), ((1,), (5, 1))),), ((3, 1), (0, 1))), None]")

    def test_wishes(self):
        from tollroads.wishes import wished_rest
        self.check(wished_rest((2, ((0, 1, 1, 0), (0, 1, 0, 4))), ((0, 1, 10, 1),)),
                   "(((6, 1),), ((((0,), (4, 1)), ((1,), (2, 1))),))")

    def test_kinds(self):
        from tollroads.kinds import kinds_rest
        self.check(kinds_rest((2, ((0, 1, 1, 0), (0, 1, 0, 4))), ((0, 1, (3, 1), 2),), ((3, 1), (0, 1))),
                   "((((0,), (5, 2)), ((1,), (1, 2))),)")

    def test_bottlenecks(self):
        from tollroads.bottlenecks import (bottleneck_cost, bottleneck_rest, bottleneck_totals, cost_at, passed_by,
                                           queue_at, toll_at)
        some = (60, 2, 6, 3, 6)
        self.check([bottleneck_rest(some), bottleneck_cost(some), queue_at(some, (0, 1)), passed_by(some, (0, 1)),
                    cost_at(some, (-30, 1)), toll_at(some, (5, 1)), bottleneck_totals(some)],
                   "[((-20, 1), (-10, 1), (10, 1), (4, 1), (1, 1)), (60, 1), (10, 1), (40, 1), (90, 1), (30, 1), "
                   "((3600, 1), (1800, 1))]")

    def test_slots(self):
        from tollroads.slots import shows_prices, slot_plan
        self.check([slot_plan((5, 7), 1, 1, 1), shows_prices((5, 5), 1, 1, 1, (0,) * 5 + (1,) + (0,) * 25)],
                   "[(0, (5, 7)), True]")

    def test_walks(self):
        from tollroads.walks import fewest_steps, longest_walk
        game = (2, ((0, 1, (1,)), (0, 1, (2,))), ((0, 1),))
        self.check([fewest_steps(game, ((1,),)), longest_walk(game)],
                   "[(1, ((0, (0,)),)), (((1,),), ((0, (0,)),))]")

    def test_advice(self):
        from tollroads.advice import best_advice
        game = (2, ((0, 1, (1,)), (0, 1, (2,))), ((0, 1),))
        self.check(best_advice(game), "((1, 1), ((((0,),), (1, 1)),))")

    def test_statetolls(self):
        from tollroads.statetolls import state_paper, state_tolls
        game = (2, ((0, 1, (1,)), (0, 1, (2,))), ((0, 1),))
        self.check([state_tolls(game, ((1,),)), state_paper(game, ((0,),))],
                   "[((0, 1), ((1, 1), (0, 1))), (True, ())]")

    def test_buildings(self):
        from tollroads.buildings import building_prices, building_states, cheapest_building, shares
        building = (3, ((0, 1, 6), (1, 2, 0), (0, 2, 9)), ((0, 2), (0, 2)))
        self.check([shares(building, ((0, 1), (0, 1))), cheapest_building(building), building_states(building),
                    building_prices(building)],
                   "[((3, 1), (3, 1)), (6, ((0, 1), (0, 1))), (((0, 1), (0, 1)), ((2,), (2,))), ((1, 1), (3, 2))]")

    def test_widenings(self):
        from tollroads.widenings import amount_range, best_widening, widened
        flat = (2, ((0, 1, 0, 5), (0, 1, 0, 5), (0, 1, 1, 3)))
        trips = ((0, 1, (4, 1)),)
        self.check([amount_range(flat, trips, 0, (0,)), best_widening(flat, trips, 1), widened(flat, 2, 0)[1][2]],
                   "[((0, 1), (2, 1)), ((12, 1), (0, 0, 1)), (0, 1, 0, 3)]")

    def test_town(self):
        from tollroads.town import Town
        town = Town((2, ((0, 1, 1, 2),)))
        first = [town.put('a', (0, 1, (3, 1))), town.toll(0, (1, 2))]
        self.check([first, town.names(), town.costs(), town.income(), town.undo(), town.costs()],
                   "[[None, (0, 1)], ('a',), ((11, 2),), (3, 2), None, ((5, 1),)]")

    def test_gametext(self):
        from tollroads.gametext import read_game, write_game
        text = '3 | 0 1 : 1 2 | 1 2 : 0 0 # 0 2 # 0 2'
        self.check([read_game(text), write_game(read_game(text)) == text],
                   "[(3, ((0, 1, (1, 2)), (1, 2, (0, 0))), ((0, 2), (0, 2))), True]")


if __name__ == "__main__":
    unittest.main()
