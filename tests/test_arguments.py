"""Point 1: values of all kinds in the place of each argument and inside of it, for all functions that have landed."""

import unittest

from tests.gamesupport import ALONE, MIXED, ONE as SINGLE, PAIR, RESTLESS
from tests.support import BRAESS, PIGOU, Raising, SMALL, is_ratio, spoiled, zeros
from tollroads.advice import advice_paper, best_advice, shows_advice, shows_advice_paper
from tollroads.bests import best, best_total, margin_tolls, selfish_price, shows_best
from tollroads.bottlenecks import (bottleneck_cost, bottleneck_rest, bottleneck_totals, cost_at, passed_by, queue_at,
                                   toll_at)
from tollroads.buildings import building_prices, building_states, cheapest_building, shares
from tollroads.errors import (BadBottleneck, BadBudget, BadBuilding, BadCapacity, BadCost, BadDemand, BadGame, BadIndex,
                              BadKinds, BadLanes, BadLimits, BadNet, BadNode, BadOwners, BadRouting, BadShare,
                              BadSlope, BadSlots, BadState, BadTime, BadTolls, BadTrips, BadWay, BadWeights,
                              BadWishes)
from tollroads.games import company, game_potential, game_total, loads, player_times
from tollroads.gametext import write_game
from tollroads.heavies import heavy_ring, heavy_standing, shows_heavy_ring
from tollroads.kinds import kinds_rest, shows_kinds
from tollroads.lanes import lane_corners, lane_rest, shows_lane_rest
from tollroads.leaders import leader_plan, shows_plan
from tollroads.limits import limited_rest, shows_limited
from tollroads.nets import ways
from tollroads.nettext import write_net
from tollroads.owners import owner_totals, shared_rest, shows_shared
from tollroads.parts import best_part, closures, harmful_roads
from tollroads.reductions import reduction, shows_reduction
from tollroads.rests import cheapest_ways, more_of, rest, rest_costs, rest_total, shows_rest, takings
from tollroads.routings import flows, potential, times, total
from tollroads.slots import shows_prices, slot_plan, slot_prices
from tollroads.standings import (best_answers, best_state, better_steps, lowest_state, shows_walk, standing_prices,
                                 standing_states, stands, walk_to_standing)
from tollroads.statetolls import shows_state_paper, shows_state_tolls, state_paper, state_tolls
from tollroads.tollsets import fewest_tolls, least_tolls, shows_toll_paper, shows_tolls, toll_paper
from tollroads.walks import fewest_steps, longest_walk, shows_longest
from tollroads.widenings import amount_range, best_widening, widened
from tollroads.wishes import shows_wished, wished_rest

TRIPS = ((0, 2, (3, 2)), (0, 1, (1, 1)))
ROUTING = ((((0, 2), (1, 1)), ((1,), (1, 2))), (((0,), (1, 1)),))
TOLLS = ((1, 1), (0, 1), (1, 2))
AT_REST = ((((0, 4, 3), (1, 1)),),)
BEST = ((((0, 2), (1, 2)), ((1, 3), (1, 2))),)
LANES = ((1, 0), (2, 1), (0, 5))
PLAN = (((13, 6), (5, 6), (0, 1)), ((2, 3), (5, 6), (0, 1)), ((3, 2), (0, 1), (0, 1)), (83, 12))
ONE = ((0, 3, (1, 1)),)
TOLD, TOLD_TRIPS = ROUTING[:1], TRIPS[:1]
FOUR = (2, ((0, 1, 1, 0), (0, 1, 0, 4)))
STATE = ((0, 1), (2,))
# A heavy game in which a state stands.
CALM = (3, ((0, 1, (1, 2, 3)), (1, 2, (0, 0, 0)), (0, 2, (2, 5, 5))), ((0, 2), (0, 2)))
RING = (((0, 4, 3), (0, 1)), ((5,), (0, 1)), ((5,), (2, 3)), ((0, 4, 3), (2, 3)))
OWNERS = ((0, 1, (1, 1)), (0, 1, (6, 1)))
OWNED = ((((0,), (1, 1)),), (((0,), (3, 2)), ((1,), (9, 2))))
LIMITS = ((1, 1), None)
LIMITED = (((((0,), (1, 1)), ((1,), (5, 1))),), ((3, 1), (0, 1)))
WISHES = ((0, 2, 9, 2), (0, 1, 10, 1))
KINDS = ((0, 1, (2, 1), 1), (0, 1, (2, 1), 100))
SOME = (60, 2, 6, 3, 6)
PRICES = (0,) * 5 + (3,) + (0,) * 25
SHED = (3, ((0, 1, 6), (1, 2, 0), (0, 2, 9)), ((0, 2), (0, 2)))
# One player of two saves 2 on the other road; a toll of 2 there, which the first player pays, stops that.
TOLLED = (3, ((0, 1, (1, 4)), (0, 1, (6, 6)), (1, 2, (0, 0))), ((0, 1), (0, 2)))
MIXED_PAPER = tuple((player, (1,), (0,), (1, 3)) for player in range(3))

# The class of the error for each kind of argument; "value" stands for the last one of a function `shows_..`.
ERRORS = {"net": BadNet, "node": BadNode, "trips": BadTrips, "routing": BadRouting, "tolls": BadTolls,
          "index": BadIndex, "demand": BadDemand, "lanes": BadLanes, "share": BadShare, "game": BadGame,
          "heavy": BadGame, "state": BadState, "weights": BadWeights, "owners": BadOwners, "limits": BadLimits,
          "wishes": BadWishes, "kinds": BadKinds, "some": BadBottleneck, "time": BadTime, "slots": BadSlots,
          "capacity": BadCapacity, "cost": BadCost, "building": BadBuilding, "slope": BadSlope, "budget": BadBudget,
          "way": BadWay}

CALLS = (
    (ways, "net node node", (SMALL, 0, 2)),
    (flows, "net trips routing", (SMALL, TRIPS, ROUTING)),
    (times, "net trips routing", (SMALL, TRIPS, ROUTING)),
    (total, "net trips routing", (SMALL, TRIPS, ROUTING)),
    (potential, "net trips routing", (SMALL, TRIPS, ROUTING)),
    (write_net, "net", (SMALL,)),
    (rest, "net trips tolls", (SMALL, TRIPS, TOLLS)),
    (rest_costs, "net trips tolls", (SMALL, TRIPS, TOLLS)),
    (cheapest_ways, "net trips tolls", (SMALL, TRIPS, TOLLS)),
    (rest_total, "net trips tolls", (SMALL, TRIPS, TOLLS)),
    (takings, "net trips tolls", (SMALL, TRIPS, TOLLS)),
    (shows_rest, "net trips tolls value", (BRAESS, ONE, zeros(BRAESS), AT_REST)),
    (more_of, "net trips index demand", (SMALL, TRIPS, 1, (2, 3))),
    (best, "net trips", (SMALL, TRIPS)),
    (best_total, "net trips", (SMALL, TRIPS)),
    (selfish_price, "net trips", (SMALL, TRIPS)),
    (margin_tolls, "net trips", (SMALL, TRIPS)),
    (shows_best, "net trips value", (BRAESS, ONE, BEST)),
    (lane_rest, "lanes demand", (LANES, (3, 1))),
    (lane_corners, "lanes demand", (LANES, (3, 1))),
    (shows_lane_rest, "lanes demand value", (LANES, (4, 1), ((3, 1), ((3, 1), (1, 1), (0, 1))))),
    (leader_plan, "lanes demand share", (LANES, (3, 1), (1, 2))),
    (shows_plan, "lanes demand share value", (LANES, (3, 1), (1, 2), PLAN)),
    (harmful_roads, "net node node demand", (BRAESS, 0, 3, (1, 1))),
    (best_part, "net node node demand", (BRAESS, 0, 3, (1, 1))),
    (closures, "net trips", (SMALL, TRIPS)),
    (reduction, "net node node", (PIGOU, 0, 1)),
    (shows_reduction, "net node node value", (SMALL, 0, 2, (("row", 0, 2), ("side", 0, 1)))),
    (least_tolls, "net trips routing", (SMALL, TOLD_TRIPS, TOLD)),
    (toll_paper, "net trips routing", (SMALL, TOLD_TRIPS, TOLD)),
    (fewest_tolls, "net trips routing", (SMALL, TOLD_TRIPS, TOLD)),
    (shows_tolls, "net trips routing value", (SMALL, TOLD_TRIPS, TOLD, ((1, 2), ((0, 1), (1, 1), (0, 1))))),
    (shows_toll_paper, "net trips routing value",
     (SMALL, TOLD_TRIPS, TOLD, (True, ((0, (0, 2), (-1, 2)), (0, (1,), (1, 2)))))),
    (player_times, "game state", (PAIR, STATE)),
    (loads, "game state", (PAIR, STATE)),
    (company, "game state", (PAIR, STATE)),
    (game_total, "game state", (PAIR, STATE)),
    (game_potential, "game state", (PAIR, STATE)),
    (better_steps, "game state", (PAIR, STATE)),
    (best_answers, "game state", (PAIR, STATE)),
    (stands, "game state", (PAIR, STATE)),
    (standing_states, "game", (PAIR,)),
    (walk_to_standing, "game state", (SINGLE, ((1,),))),
    (shows_walk, "game state value", (PAIR, ((2,), (2,)), ((0, (0, 1)),))),
    (best_state, "game", (PAIR,)),
    (lowest_state, "game", (PAIR,)),
    (standing_prices, "game", (PAIR,)),
    (heavy_standing, "weights heavy", ((1, 2), RESTLESS)),
    (heavy_ring, "weights heavy", ((1, 2), CALM)),
    (shows_heavy_ring, "weights heavy value", ((1, 2), RESTLESS, RING)),
    (shared_rest, "net owners", (FOUR, OWNERS)),
    (owner_totals, "net owners", (FOUR, OWNERS)),
    (shows_shared, "net owners value", (FOUR, OWNERS, OWNED)),
    (limited_rest, "net trips limits", (FOUR, OWNERS[1:], LIMITS)),
    (shows_limited, "net trips limits value", (FOUR, OWNERS[1:], LIMITS, LIMITED)),
    (wished_rest, "net wishes", (SMALL, WISHES)),
    (shows_wished, "net wishes value", (FOUR, ((0, 1, 10, 1),), (((6, 1),), ((((0,), (4, 1)), ((1,), (2, 1))),)))),
    (kinds_rest, "net kinds tolls", (FOUR, KINDS, ((3, 1), (0, 1)))),
    (shows_kinds, "net kinds tolls value", (FOUR, KINDS, ((3, 1), (0, 1)), ((((1,), (2, 1)),), (((0,), (2, 1)),)))),
    (bottleneck_rest, "some", (SOME,)),
    (bottleneck_cost, "some", (SOME,)),
    (bottleneck_totals, "some", (SOME,)),
    (queue_at, "some time", (SOME, (-3, 2))),
    (passed_by, "some time", (SOME, (-3, 2))),
    (cost_at, "some time", (SOME, (-3, 2))),
    (toll_at, "some time", (SOME, (-3, 2))),
    (slot_plan, "slots capacity cost cost", ((5, 7), 1, 1, 1)),
    (slot_prices, "slots capacity cost cost", ((5,), 2, 1, 1)),
    (shows_prices, "slots capacity cost cost value", ((5, 5), 1, 4, 3, PRICES)),
    (fewest_steps, "game state", (SINGLE, ((1,),))),
    (longest_walk, "game", (SINGLE,)),
    (shows_longest, "game value", (SINGLE, (((1,),), ((0, (0,)),)))),
    (best_advice, "game", (SINGLE,)),
    (advice_paper, "game", (ALONE,)),
    (shows_advice, "game value", (SINGLE, ((1, 1), ((((0,),), (1, 1)),)))),
    (shows_advice_paper, "game value", (MIXED, MIXED_PAPER)),
    (state_tolls, "game state", (TOLLED, ((0,), (1, 2)))),
    (state_paper, "game state", (TOLLED, ((0,), (1, 2)))),
    (shows_state_tolls, "game state value", (TOLLED, ((0,), (1, 2)), ((2, 1), ((2, 1), (0, 1), (0, 1))))),
    (shows_state_paper, "game state value", (TOLLED, ((0,), (1, 2)), (True, ((1, (0, 2), (1, 1)),)))),
    (shares, "building state", (SHED, STATE)),
    (building_states, "building", (SHED,)),
    (building_prices, "building", (SHED,)),
    (cheapest_building, "building", (SHED,)),
    (widened, "net index slope", (SMALL, 2, 1)),
    (best_widening, "net trips budget", (SMALL, TRIPS, 2)),
    (amount_range, "net trips index way", (SMALL, TRIPS, 0, (0, 2))),
    (write_game, "game", (PAIR,)),
)


def first_strange(row, known, most):
    """The index of the first thing that stands not at the same place of a right tuple, None for no such tuple."""
    if not (isinstance(row, tuple) and 1 <= len(row) <= most):
        return None
    return [index for index, part in enumerate(row) if index >= len(known) or part is not known[index]][0]


def wanted_field(kind, right, path, wrong):
    """The field of the error for a right argument with something wrong at a path."""
    if kind == "net":
        if len(path) == 0 or path[0] == 0:
            return {"index": None}
        return {"index": path[1] if len(path) > 1 else first_strange(wrong[1], right[1], 10)}
    if kind in ("trips", "lanes", "owners", "wishes", "kinds"):
        return {"index": path[0] if path else first_strange(wrong, right, 8 if kind == "lanes" else 3)}
    if kind in ("game", "heavy", "building"):
        return {"index": wanted_place(right, path, wrong, kind == "heavy")}
    return {}


def wanted_place(right, path, wrong, heavy):
    """The index of the error for a right game with something wrong at a path."""
    if len(path) == 0 or path[0] == 0:
        return None
    before = len(right[1]) if path[0] == 2 else 0
    if len(path) > 1:
        return before + path[1]
    first = first_strange(wrong[path[0]], right[path[0]], 8 if path[0] == 1 else 4)
    if first is None or path[0] == 1:
        return first
    # With another number of players no table has the right length, where there are tables; a heavy game has as many
    # players as weights.
    if len(wrong[2]) != len(right[2]) and isinstance(right[1][0][2], tuple):
        return None if heavy else 0
    return before + first


def wrongs(kind, right):
    """The pairs (path, wrong) for an argument; None in the place of a limit is not wrong, nor is any other time."""
    found = spoiled(right)
    if kind == "limits":
        return [(path, wrong) for path, wrong in found if len(path) != 1 or wrong[path[0]] is not None]
    if kind == "time":
        return [(path, wrong) for path, wrong in found if not is_ratio(wrong)]
    return found


class ArgumentsTest(Raising, unittest.TestCase):
    def test_each_place_of_each_argument(self):
        for function, kinds, right in CALLS:
            for place, kind in enumerate(kinds.split()):
                if kind != "value":
                    with self.subTest(function=function.__name__, place=place):
                        self.spoil(function, right, place, kind)

    def spoil(self, function, right, place, kind):
        for path, wrong in wrongs(kind, right[place]):
            arguments = (*right[:place], wrong, *right[place + 1:])
            field = wanted_field(kind, right[place], path, wrong)
            self.assert_raises(ERRORS[kind], field, function, *arguments)

    def test_values_that_are_shown(self):
        for function, kinds, right in CALLS:
            if kinds.endswith("value"):
                with self.subTest(function=function.__name__):
                    self.assertIs(function(*right), True)
                    # True stands at one place of a right value too.
                    for wrong in [wrong for _, wrong in spoiled(right[-1]) if repr(wrong) != repr(right[-1])]:
                        before = repr(wrong)
                        self.assertIs(function(*right[:-1], wrong), False, wrong)
                        self.assertEqual(repr(wrong), before)

    def test_two_wrong_arguments(self):
        for function, kinds, right in CALLS:
            names = kinds.split()
            for left in range(len(names)):
                for other in range(left + 1, len(names)):
                    with self.subTest(function=function.__name__, left=left, other=other):
                        self.spoil_two(function, right, names, left, other)

    def spoil_two(self, function, right, names, left, other):
        for path, wrong in wrongs(names[left], right[left])[::7]:
            for second in ("x", None, True, [], -1, (None,)):
                arguments = [*right]
                arguments[left] = wrong
                arguments[other] = second
                field = wanted_field(names[left], right[left], path, wrong)
                self.assert_raises(ERRORS[names[left]], field, function, *arguments)

    def test_calls_go_on_after_errors(self):
        # A call that raises an error changes nothing, and equal arguments have equal answers: those of these calls
        # are the only right ones.
        for function, kinds, right in CALLS:
            before = repr(right)
            first = function(*right)
            for place in range(len(right)):
                if kinds.split()[place] != "value":
                    with self.assertRaises(ValueError):
                        function(*right[:place], None, *right[place + 1:])
            self.assert_same(function(*right), first)
            self.assertEqual(repr(right), before)


if __name__ == "__main__":
    unittest.main()
