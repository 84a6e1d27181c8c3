"""Point 13: games, states, and what the players meet in them."""

import unittest

from tests.gamesupport import (ALONE, CROWD, FREE, MORE_STATES, NINE_WAYS, ONE, PAIR, THOUSAND_STATES, chain_game,
                               counts_of, lanes_game, plain, sample_games, states_of, times_of)
from tests.support import INTEGER_WRONGS, Raising
from tollroads.errors import BadGame, BadState, TooMany
from tollroads.games import company, game_potential, game_total, loads, player_times

ALL = (player_times, loads, company, game_total, game_potential)
STATE = ((0, 1), (2,))


def company_of(game, state):
    return tuple(tuple(other for other in range(len(state)) if other != player and {*state[other]} & {*state[player]})
                 for player in range(len(state)))


class ValuesTest(Raising, unittest.TestCase):
    def check(self, game, state):
        counts = counts_of(game, plain(game), state)
        times = times_of(game, plain(game), state)
        self.assert_same(loads(game, state), tuple(counts))
        self.assert_same(player_times(game, state), tuple(times))
        self.assert_same(company(game, state), company_of(game, state))
        self.assert_same(game_total(game, state), sum(times))
        self.assert_same(game_potential(game, state), sum(sum(road[2][:count]) for road, count in zip(game[1], counts)))

    def test_many_games(self):
        for game in sample_games(61, 120):
            for state in states_of(game)[::7]:
                self.check(game, state)

    def test_known_games(self):
        for game in (PAIR, ONE, ALONE, FREE, CROWD, lanes_game(8, 3)):
            for state in states_of(game)[:200]:
                self.check(game, state)

    def test_worked_out_by_hand(self):
        state = ((0, 2, 4), (0, 2, 4), (2, 4), (0, 2))
        self.assert_same(loads(CROWD, state), (3, 0, 4, 0, 3, 0))
        self.assert_same(player_times(CROWD, state), (12, 12, 6, 7))
        self.assert_same(company(CROWD, state), ((1, 2, 3), (0, 2, 3), (0, 1, 3), (0, 1, 2)))
        self.assert_same(game_total(CROWD, state), 37)
        self.assert_same(game_potential(CROWD, state), 1 + 3 + 6 + 0 + 1 + 1 + 1 + 1 + 2 + 5)
        state = ((0, 3), (1, 4), (2, 4), (1,))
        self.assert_same(loads(CROWD, state), (1, 2, 1, 1, 2, 0))
        self.assert_same(player_times(CROWD, state), (5, 4, 2, 2))
        self.assert_same(company(CROWD, state), ((), (2, 3), (1,), (1,)))
        self.assert_same(game_total(CROWD, state), 13)
        self.assert_same(game_potential(CROWD, state), 1 + 4 + 0 + 4 + 3)

    def test_one_player(self):
        self.assert_same([function(ALONE, ((0,),)) for function in ALL], [(7,), (1,), ((),), 7, 7])

    def test_nothing_costs_anything(self):
        self.assert_same([function(FREE, ((0,), (0,))) for function in ALL], [(0, 0), (2, 0), ((1,), (0,)), 0, 0])

    def test_bounds_of_a_game(self):
        costs = (0, 0, 1000, 1000)
        game = (6, ((0, 5, costs),) * 5 + ((5, 0, costs),) * 3, ((0, 5), (5, 0), (5, 0), (0, 5)))
        self.assert_same(player_times(game, ((0,), (5,), (5,), (4,))), (0, 0, 0, 0))
        self.assert_same(player_times(game, ((0,), (7,), (7,), (0,))), (0, 0, 0, 0))


class GameTest(Raising, unittest.TestCase):
    def refuse(self, index, game):
        for function in ALL:
            self.assert_raises(BadGame, {"index": index}, function, game, None)

    def test_kinds(self):
        for game in (*INTEGER_WRONGS, [*PAIR], PAIR[:2], (*PAIR, 0), {0: PAIR}, "game"):
            self.refuse(None, game)

    def test_sizes(self):
        for size in (*INTEGER_WRONGS, 1, 0, 7):
            self.refuse(None, (size, *PAIR[1:]))
            self.refuse(None, (size, ("x",), ("x",)))

    def test_how_many_roads(self):
        for roads in (*INTEGER_WRONGS, [*PAIR[1]], {0: PAIR[1][0]}, PAIR[1] * 3):
            if roads != (0,):
                self.refuse(None, (3, roads, PAIR[2]))
        self.refuse(None, (3, ("x",) * 9, PAIR[2]))
        self.refuse(0, (3, ("x",) * 8, PAIR[2]))
        self.refuse(0, (3, (0,), PAIR[2]))

    def test_how_many_players(self):
        for players in (*INTEGER_WRONGS, [*PAIR[2]], {0: (0, 2)}, ((0, 2),) * 5, ("x",) * 5):
            if players != (0,):
                self.refuse(None, (3, PAIR[1], players))
                self.refuse(None, (3, ("x",), players))

    def test_roads(self):
        for road in (*INTEGER_WRONGS, [0, 1, (1, 2)], (0, 1), (0, 1, (1, 2), 0), (0, 0, (1, 2)), (0, 3, (1, 2)),
                     (3, 0, (1, 2)), (-1, 0, (1, 2)), (False, 1, (1, 2)), (0, True, (1, 2)), ("0", 1, (1, 2)),
                     (None, 1, (1, 2)), ((0,), 1, (1, 2))):
            self.refuse(0, (3, (road, *PAIR[1]), PAIR[2]))
            self.refuse(3, (3, (*PAIR[1], road, "x"), PAIR[2]))
            self.refuse(3, (3, (*PAIR[1], road), ("x", "x")))

    def test_tables(self):
        for costs in (*INTEGER_WRONGS, 1, [1, 2], (1,), (1, 2, 3), (2, 1), (1000, 999), (1001, 1001), (0, 1001),
                      (-1, 0), (True, 2), (1, True), (False, False), ("1", "2"), (1, None), (None, None), ((1,), (2,)),
                      "12", {0: 1, 1: 2}):
            self.refuse(2, (3, (*PAIR[1][:2], (0, 2, costs)), PAIR[2]))
        for costs in ((0, 0), (0, 1000), (1000, 1000), (7, 7)):
            game = (3, (*PAIR[1][:2], (0, 2, costs)), PAIR[2])
            self.assert_same(player_times(game, ((2,), (2,))), (costs[1], costs[1]))

    def test_tables_have_as_many_entries_as_players(self):
        self.refuse(0, (3, PAIR[1], ((0, 2),)))
        self.refuse(0, (3, PAIR[1], ((0, 2),) * 3))
        self.refuse(1, (2, ((0, 1, (1,)), (0, 1, (1, 2))), ((0, 1),)))
        # Roads are counted ahead of players.
        self.refuse(1, (2, ((0, 1, (1,)), (0, 1, ())), ("x",)))

    def test_players(self):
        for player in (*INTEGER_WRONGS, 0, 2, [0, 2], (0,), (0, 2, 1), (0, 0), (2, 2), (0, 3), (3, 0), (-1, 2),
                       (False, 2), (0, True), ("0", 2), (None, 2), (0, (2,)), "02"):
            self.refuse(3, (3, PAIR[1], (player, (0, 2))))
            self.refuse(3, (3, PAIR[1], (player, "x")))
            self.refuse(4, (3, PAIR[1], ((0, 2), player)))

    def test_players_without_a_way(self):
        self.refuse(3, (3, PAIR[1], ((2, 0), (0, 2))))
        self.refuse(4, (3, PAIR[1], ((0, 2), (1, 0))))
        self.refuse(4, (3, PAIR[1], ((0, 1), (2, 1))))
        self.refuse(1, (6, ((0, 1, (1,)),), ((0, 5),)))


class StateTest(Raising, unittest.TestCase):
    def test_states(self):
        self.assert_same(loads(PAIR, STATE), (1, 1, 1))
        for state in (*INTEGER_WRONGS, [*STATE], STATE[:1], (*STATE, (2,)), (*STATE, None), {0: STATE}, "12", (1, 2),
                      ((0, 1), None), ((0, 1), 2), ((0, 1), [2]), ((0, 1), "2"), ((0, 1), ()), ((0, 1), (0,)),
                      ((0, 1), (1,)), ((0, 1), (3,)), ((0, 1), (-1,)), ((1, 0), (2,)), ((0, 1, 2), (2,)),
                      ((False, True), (2,)), ((0, True), (2,)), ((False, 1), (2,)), ((0, 1), ("2",)), ((0, 1), ({},)),
                      ((0, 1), ([2],)), ((0, 1), {}), ((0, 1), {2: 2}), ((0, None), (2,))):
            for function in ALL:
                self.assert_raises(BadState, {}, function, PAIR, state)

    def test_each_player_has_ways_of_its_own(self):
        game = (3, PAIR[1], ((0, 2), (1, 2)))
        self.assert_same(loads(game, ((2,), (1,))), (0, 1, 1))
        for state in (((1,), (2,)), ((2,), (2,)), ((1,), (1,)), ((2,), (0, 1))):
            for function in ALL:
                self.assert_raises(BadState, {}, function, game, state)


class BoundsTest(Raising, unittest.TestCase):
    def test_eight_ways_and_nine(self):
        self.assert_same(player_times(lanes_game(8, 1), ((5,),)), (5,))
        self.assert_same(player_times(chain_game((2, 2, 2), ((0, 3),)), ((0, 2, 4),)), (3,))
        nine = chain_game((3, 3), ((0, 2),))
        for function in ALL:
            self.assert_raises(TooMany, {"most": 8}, function, nine, ((0, 3),))
            self.assert_raises(TooMany, {"most": 8}, function, NINE_WAYS, ((0, 3), (1,)))
            self.assert_raises(TooMany, {"most": 8}, function, (*NINE_WAYS[:2], NINE_WAYS[2][::-1]), ((1,), (0, 3)))
            self.assert_raises(BadState, {}, function, nine, ((0, 0),))
            self.assert_raises(BadGame, {"index": 7}, function, (*NINE_WAYS[:2], ((0, 2), (2, 0))), None)

    def test_a_thousand_states_and_more(self):
        self.assertEqual([len(states_of(THOUSAND_STATES)), len(states_of(MORE_STATES))], [1000, 1024])
        state = ((7,), (6, 0), (6, 3), (0, 5))
        self.assert_same(loads(THOUSAND_STATES, state), (2, 0, 0, 1, 0, 1, 2, 1))
        for function in ALL:
            function(THOUSAND_STATES, state)
        for game, state in ((MORE_STATES, ((0, 2, 4), (0, 2, 4), (0, 2), (2, 4))), (lanes_game(6, 4), ((0,),) * 4),
                            (lanes_game(8, 4), ((7,),) * 4)):
            for function in ALL:
                self.assert_raises(TooMany, {"most": 1000}, function, game, state)
                self.assert_raises(BadState, {}, function, game, state[1:])

    def test_too_many_ways_come_ahead_of_too_many_states(self):
        # The last player has twelve ways, and there are 4 * 4 * 4 * 12 states.
        game = chain_game((4, 3), ((0, 1), (0, 1), (0, 1), (0, 2)))
        for function in ALL:
            self.assert_raises(TooMany, {"most": 8}, function, game, ((0,), (0,), (0,), (0, 4)))
            self.assert_raises(TooMany, {"most": 8}, function, (*game[:2], ((0, 2),) * 4), ((0, 4),) * 4)

    def test_the_leftmost_error(self):
        for function in ALL:
            self.assert_raises(BadGame, {"index": None}, function, None, None)
            self.assert_raises(BadGame, {"index": 1}, function, (2, (ONE[1][0], "x"), ((0, 1),)), ((0,),))


if __name__ == "__main__":
    unittest.main()
