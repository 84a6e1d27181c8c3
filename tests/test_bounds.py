"""Point 1: TooMany comes after all other errors, in each function that raises it."""

import unittest

from tests.gamesupport import MORE_STATES, NINE_WAYS, lanes_game
from tests.support import Raising, TWENTY, TWENTY_ONE, ways_of, zeros
from tests.test_arguments import ERRORS, wanted_field, wrongs
from tollroads.advice import advice_paper, best_advice, shows_advice, shows_advice_paper
from tollroads.bests import best, best_total, margin_tolls, selfish_price, shows_best
from tollroads.buildings import building_prices, building_states, cheapest_building, shares
from tollroads.errors import BadIndex, BadName, BadNet, BadToll, BadTrips, Taken, TooMany
from tollroads.games import company, game_potential, game_total, loads, player_times
from tollroads.heavies import heavy_ring, heavy_standing, shows_heavy_ring
from tollroads.kinds import kinds_rest, shows_kinds
from tollroads.limits import limited_rest, shows_limited
from tollroads.nets import ways
from tollroads.owners import owner_totals, shared_rest, shows_shared
from tollroads.parts import best_part, closures, harmful_roads
from tollroads.rests import cheapest_ways, more_of, rest, rest_costs, rest_total, shows_rest, takings
from tollroads.routings import flows, potential, times, total
from tollroads.standings import (best_answers, best_state, better_steps, lowest_state, shows_walk, standing_prices,
                                 standing_states, stands, walk_to_standing)
from tollroads.statetolls import shows_state_paper, shows_state_tolls, state_paper, state_tolls
from tollroads.tollsets import fewest_tolls, least_tolls, shows_toll_paper, shows_tolls, toll_paper
from tollroads.town import Town
from tollroads.walks import fewest_steps, longest_walk, shows_longest
from tollroads.widenings import amount_range, best_widening
from tollroads.wishes import shows_wished, wished_rest

NET, TRIPS = TWENTY_ONE, ((0, 2, (1, 1)),)
ROUTING = ((((0, 3), (1, 2)), ((2, 9), (1, 2))),)
TOLLS, LIMITS = zeros(NET), ((5, 1), *[None for _ in NET[1][1:]])
WISHES, KINDS = ((0, 2, 9, 2),), ((0, 2, (1, 1), 3),)
STATE = ((0, 3), (1,))
HEAVY = (NINE_WAYS[0], tuple((*road[:2], (1, 1, 1)) for road in NINE_WAYS[1]), NINE_WAYS[2])
PRICED = (NINE_WAYS[0], tuple((*road[:2], 7) for road in NINE_WAYS[1]), NINE_WAYS[2])
# The arguments of these are too many ways, states or roads; the bound stands beside them.
CALLS = (
    (20, ways, "net node node", (NET, 0, 2)),
    *[(20, function, "net trips routing", (NET, TRIPS, ROUTING))
      for function in (flows, times, total, potential, least_tolls, toll_paper, fewest_tolls)],
    *[(20, function, "net trips routing value", (NET, TRIPS, ROUTING, None))
      for function in (shows_tolls, shows_toll_paper)],
    *[(20, function, "net trips tolls", (NET, TRIPS, TOLLS))
      for function in (rest, rest_costs, cheapest_ways, rest_total, takings)],
    (20, shows_rest, "net trips tolls value", (NET, TRIPS, TOLLS, None)),
    (20, more_of, "net trips index demand", (NET, TRIPS, 0, (1, 2))),
    *[(20, function, "net trips", (NET, TRIPS))
      for function in (best, best_total, selfish_price, margin_tolls, closures)],
    (20, shows_best, "net trips value", (NET, TRIPS, None)),
    (20, harmful_roads, "net node node demand", (NET, 0, 2, (1, 2))),
    (20, best_part, "net node node demand", (NET, 0, 2, (1, 2))),
    (8, best_part, "net node node demand", (TWENTY, 0, 2, (1, 2))),
    (8, fewest_tolls, "net trips routing", (TWENTY, TRIPS, ((((0, 4), (1, 1)),),))),
    *[(20, function, "net owners", (NET, TRIPS)) for function in (shared_rest, owner_totals)],
    (20, shows_shared, "net owners value", (NET, TRIPS, None)),
    (20, limited_rest, "net trips limits", (NET, TRIPS, LIMITS)),
    (20, shows_limited, "net trips limits value", (NET, TRIPS, LIMITS, None)),
    (20, wished_rest, "net wishes", (NET, WISHES)),
    (20, shows_wished, "net wishes value", (NET, WISHES, None)),
    (20, kinds_rest, "net kinds tolls", (NET, KINDS, TOLLS)),
    (20, shows_kinds, "net kinds tolls value", (NET, KINDS, TOLLS, None)),
    *[(8, function, "game state", (NINE_WAYS, STATE))
      for function in (player_times, loads, company, game_total, game_potential, better_steps, best_answers, stands,
                       walk_to_standing, fewest_steps, state_tolls, state_paper)],
    *[(1000, function, "game state", (lanes_game(6, 4), ((0,), (1,), (5,), (5,))))
      for function in (player_times, company, better_steps, walk_to_standing, fewest_steps, state_tolls, state_paper)],
    *[(8, function, "game state value", (NINE_WAYS, STATE, None))
      for function in (shows_walk, shows_state_tolls, shows_state_paper)],
    *[(8, function, "game", (NINE_WAYS,))
      for function in (standing_states, best_state, lowest_state, standing_prices, longest_walk, best_advice,
                       advice_paper)],
    *[(1000, function, "game", (MORE_STATES,))
      for function in (standing_states, best_state, lowest_state, standing_prices, longest_walk, best_advice,
                       advice_paper)],
    *[(20, function, "game", (lanes_game(5, 2),)) for function in (best_advice, advice_paper)],
    (8, shows_longest, "game value", (NINE_WAYS, None)),
    *[(20, function, "game value", (lanes_game(3, 3), None)) for function in (shows_advice, shows_advice_paper)],
    *[(8, function, "weights heavy", ((1, 2), HEAVY)) for function in (heavy_standing, heavy_ring)],
    (8, shows_heavy_ring, "weights heavy value", ((1, 2), HEAVY, None)),
    (8, shares, "building state", (PRICED, STATE)),
    *[(8, function, "building", (PRICED,)) for function in (building_states, building_prices, cheapest_building)],
    (20, best_widening, "net trips budget", (NET, TRIPS, 2)),
    (20, amount_range, "net trips index way", (NET, TRIPS, 0, (2, 9))),
)


class BoundsTest(Raising, unittest.TestCase):
    def test_too_many(self):
        self.assertEqual((len(ways_of(TWENTY, 0, 2)), len(ways_of(NET, 0, 2))), (20, 21))
        for most, function, _, arguments in CALLS:
            with self.subTest(function=function.__name__, most=most):
                self.assert_raises(TooMany, {"most": most}, function, *arguments)

    def test_too_many_beside_a_wrong_argument(self):
        for most, function, kinds, arguments in CALLS:
            for place, kind in enumerate(kinds.split()):
                if kind != "value":
                    with self.subTest(function=function.__name__, most=most, place=place):
                        self.spoil(function, arguments, place, kind)

    def spoil(self, function, arguments, place, kind):
        for path, wrong in wrongs(kind, arguments[place])[::3]:
            field = wanted_field(kind, arguments[place], path, wrong)
            spoiled = (*arguments[:place], wrong, *arguments[place + 1:])
            self.assert_raises(ERRORS[kind], field, function, *spoiled)

    def test_values_that_are_shown_are_no_wrong_arguments(self):
        for most, function, kinds, arguments in CALLS:
            if kinds.endswith("value"):
                for value in ("x", 0, 1, True, (), [], {}, ((),), (None, None)):
                    self.assert_raises(TooMany, {"most": most}, function, *arguments[:-1], value)


class TownTest(Raising, unittest.TestCase):
    def full(self):
        town = Town((5, ((0, 1, 1, 0), (1, 2, 1, 0), (2, 3, 1, 0), (3, 4, 1, 0))))
        for name, goal in (("a", 1), ("b", 2), ("c", 3)):
            town.put(name, (0, goal, (1, 1)))
        return town

    def test_too_many_trips_beside_something_wrong(self):
        town = self.full()
        self.assert_raises(TooMany, {"most": 3}, town.put, "d", (0, 4, (1, 1)))
        self.assert_raises(BadName, {}, town.put, "D", (0, 4, (1, 1)))
        self.assert_raises(BadTrips, {"index": None}, town.put, "d", (4, 0, (1, 1)))
        self.assert_raises(Taken, {}, town.put, "d", (0, 3, (1, 2)))

    def test_two_wrong_arguments(self):
        town = self.full()
        for wrong in ("x", None, True, [], -1, (None,), {}):
            self.assert_raises(BadName, {}, town.put, "", wrong)
            self.assert_raises(BadIndex, {}, town.toll, 4, wrong)
            self.assert_raises(BadToll, {}, town.toll, 3, wrong)
            self.assert_raises(BadNet, {"index": None}, Town, wrong)


if __name__ == "__main__":
    unittest.main()
