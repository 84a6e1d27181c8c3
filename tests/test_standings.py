"""Point 14: states that stand, walks to them, and what they cost."""

import unittest

from tests.gamesupport import (ALONE, BAD_GAMES, BAD_STATES, CROWD, FREE, NINE_WAYS, ONE, PAIR, THOUSAND_STATES,
                               TOO_LARGE, better_steps_of, chain_game, changed, counts_of, lanes_game, plain,
                               sample_games, standing_of, states_of, tables_of, times_of)
from tests.support import INTEGER_WRONGS, Raising, number, ratio
from tollroads.errors import BadGame, BadState, TooMany
from tollroads.standings import (best_answers, best_state, better_steps, lowest_state, shows_walk, standing_prices,
                                 standing_states, stands, walk_to_standing)

OF_GAME = (standing_states, best_state, lowest_state, standing_prices)
OF_STATE = (better_steps, best_answers, stands, walk_to_standing)
GAMES = (PAIR, ONE, ALONE, FREE, CROWD, lanes_game(4, 2), lanes_game(3, 3),
         chain_game((2, 2), ((0, 2), (0, 2), (1, 2), (0, 1))))


def call(function, game, state):
    """Call any of the functions, with some last argument if it needs one."""
    if function in OF_GAME:
        return function(game)
    return shows_walk(game, state, None) if function is shows_walk else function(game, state)


def is_walk(game, state, value):
    """Whether a tuple of pairs is a walk to a state that stands."""
    for step in value:
        if step not in better_steps_of(game, plain(game), state):
            return False
        state = changed(state, *step)
    return not better_steps_of(game, plain(game), state)


def total_of(game, state):
    return sum(times_of(game, plain(game), state))


def potential_of(game, state):
    return sum(sum(road[2][:count]) for road, count in zip(game[1], counts_of(game, plain(game), state)))


def all_walks(game, state, most):
    """Some of all walks from a state, found by trying all steps."""
    steps = better_steps_of(game, plain(game), state)
    if not steps:
        return [()]
    found = []
    for step in steps:
        if len(found) < most:
            found += [(step, *rest) for rest in all_walks(game, changed(state, *step), most - len(found))]
    return found


class StateTest(Raising, unittest.TestCase):
    def check(self, game, state):
        steps = better_steps_of(game, plain(game), state)
        self.assert_same(better_steps(game, state), tuple(sorted(steps)))
        self.assertIs(stands(game, state), not steps)
        answers = []
        for player, table in enumerate(tables_of(game)):
            times = {way: times_of(game, plain(game), changed(state, player, way))[player] for way in table}
            answers.append(tuple(way for way in table if times[way] == min(times.values())))
        self.assert_same(best_answers(game, state), tuple(answers))
        walk = walk_to_standing(game, state)
        self.assertIs(type(walk), tuple)
        self.assertTrue(is_walk(game, state, walk), (game, state, walk))
        self.assertIs(shows_walk(game, state, walk), True)
        self.assertIs(shows_walk(game, state, ()), not steps)
        return not steps

    def test_many_games(self):
        found = [self.check(game, state) for game in sample_games(62, 80) for state in states_of(game)[::5]]
        self.assertTrue(0 < sum(found) < len(found))

    def test_known_games(self):
        for game in GAMES:
            for state in states_of(game)[::3]:
                self.check(game, state)

    def test_worked_out_by_hand(self):
        self.assert_same(better_steps(PAIR, ((2,), (2,))), ((0, (0, 1)), (1, (0, 1))))
        self.assert_same(better_steps(PAIR, ((0, 1), (2,))), ())
        self.assert_same(best_answers(PAIR, ((0, 1), (0, 1))), (((0, 1), (2,)), ((0, 1), (2,))))
        self.assert_same(best_answers(PAIR, ((2,), (0, 1))), (((0, 1), (2,)), ((0, 1),)))
        self.assert_same(stands(PAIR, ((2,), (2,))), False)
        self.assert_same(stands(PAIR, ((0, 1), (0, 1))), True)
        self.assert_same(walk_to_standing(ONE, ((1,),)), ((0, (0,)),))
        self.assert_same(walk_to_standing(ONE, ((0,),)), ())

    def test_a_step_must_make_the_time_smaller(self):
        # The way over road 1 takes player 1 just as long.
        game = (2, ((0, 1, (1, 2)), (0, 1, (2, 2))), ((0, 1), (0, 1)))
        self.assert_same(better_steps(game, ((0,), (0,))), ())
        self.assert_same(better_steps(game, ((1,), (0,))), ())
        self.assert_same(better_steps(game, ((1,), (1,))), ((0, (0,)), (1, (0,))))
        self.assertIs(shows_walk(game, ((0,), (0,)), ((0, (1,)),)), False)
        self.assertIs(shows_walk(game, ((0,), (0,)), ((0, (0,)),)), False)


class GameTest(Raising, unittest.TestCase):
    def check(self, game):
        known, standing = states_of(game), standing_of(game, plain(game))
        self.assertTrue(standing)
        self.assert_same(standing_states(game), tuple(sorted(standing)))
        least = min(total_of(game, state) for state in known)
        self.assert_same(best_state(game), (least, min(s for s in known if total_of(game, s) == least)))
        lowest = min(potential_of(game, state) for state in known)
        self.assert_same(lowest_state(game), (lowest, min(s for s in known if potential_of(game, s) == lowest)))
        if least == 0:
            self.assertIs(standing_prices(game), None)
        else:
            totals = [total_of(game, state) for state in standing]
            self.assert_same(standing_prices(game), tuple(ratio(number((end, least))) for end in (min(totals),
                                                                                                  max(totals))))

    def test_many_games(self):
        for game in sample_games(63, 120):
            self.check(game)

    def test_known_games(self):
        for game in GAMES:
            self.check(game)

    def test_least_total_of_nothing(self):
        self.assertIs(standing_prices(FREE), None)
        # A state that stands may cost something though another one costs nothing.
        game = (3, ((0, 1, (0, 1)), (0, 1, (0, 1)), (1, 2, (0, 5)), (0, 2, (0, 0))), ((0, 1), (0, 2)))
        self.assertIs(standing_prices(game), None)
        self.assert_same(best_state(game), (0, ((0,), (1, 2))))
        self.assert_same(lowest_state(game), (0, ((0,), (1, 2))))

    def test_prices_of_straight_tables(self):
        # Each table is a step times the number of players plus a number from 0 on.
        for game in sample_games(64, 60):
            roads = tuple((start, end, tuple(costs[0] * many + costs[-1] for many in range(1, len(game[2]) + 1)))
                          for start, end, costs in ((*road[:2], [cost % 200 for cost in road[2]]) for road in game[1]))
            prices = standing_prices((game[0], roads, game[2]))
            if prices is not None:
                self.assertTrue(1 <= number(prices[0]) <= number(prices[1]) <= number((5, 2)))

    def test_the_lowest_state_stands(self):
        for game in sample_games(65, 40):
            self.assertIs(stands(game, lowest_state(game)[1]), True)

    def test_a_thousand_states(self):
        self.check(THOUSAND_STATES)


class ShowsWalkTest(Raising, unittest.TestCase):
    def test_all_walks(self):
        for game in [*sample_games(66, 40), *GAMES]:
            for state in states_of(game)[::9]:
                for walk in all_walks(game, state, 12):
                    self.assertIs(shows_walk(game, state, walk), True)
                    for near in self.near(game, walk):
                        self.assertIs(shows_walk(game, state, near), is_walk(game, state, near), (game, state, near))

    def near(self, game, walk):
        yield from (walk[:-1], walk[1:], walk[::-1], (*walk, *walk[-1:]))
        for at, (player, _) in enumerate(walk[:3]):
            for other, table in enumerate(tables_of(game)):
                for way in table[:3]:
                    yield (*walk[:at], (other, way), *walk[at + 1:])
                    yield (*walk[:at], (other, way), *walk[at:])

    def test_a_walk_must_end_where_a_state_stands(self):
        game = lanes_game(3, 3)
        self.assertIs(shows_walk(game, ((0,),) * 3, ((0, (1,)),)), True)
        self.assertIs(shows_walk(game, ((2,),) * 3, ((0, (0,)),)), False)
        self.assertIs(shows_walk(game, ((2,),) * 3, ((0, (1,)), (1, (0,)))), False)
        self.assertIs(shows_walk(game, ((2,),) * 3, ((0, (1,)), (1, (0,)), (2, (0,)))), True)
        self.assertIs(shows_walk(game, ((2,),) * 3, ((2, (0,)), (2, (0,)))), False)

    def test_no_step(self):
        self.assertIs(shows_walk(PAIR, ((0, 1), (2,)), ()), True)
        self.assertIs(shows_walk(PAIR, ((2,), (2,)), ()), False)

    def test_values_of_all_kinds(self):
        start = ((2,), (2,))
        self.assertIs(shows_walk(PAIR, start, ((0, (0, 1)),)), True)
        self.assertIs(shows_walk(PAIR, start, ((1, (0, 1)),)), True)
        for value in (*INTEGER_WRONGS, [(0, (0, 1))], ([0, (0, 1)],), ((0, [0, 1]),), (0, (0, 1)), ((False, (0, 1)),),
                      ((True, (0, 1)),), ((0, (False, True)),), ((0, (0, True)),), ((2, (0, 1)),), ((-1, (0, 1)),),
                      ((-2, (0, 1)),), ((0, (2,)),), ((0, (0,)),), ((0, (1,)),), ((0, ()),), ((0,),), ((0, (0, 1), 0),),
                      (("0", (0, 1)),), ((None, (0, 1)),), (((0,), (0, 1)),), (([], (0, 1)),), ((0, None),),
                      ((0, {}),), ((0, "01"),), ({0: (0, 1)},), ((0, ({}, 1)),), ((0, (0, 1)), None)):
            self.assertIs(shows_walk(PAIR, start, value), False, value)


class WrongTest(Raising, unittest.TestCase):
    def test_games(self):
        for function in (*OF_GAME, *OF_STATE, shows_walk):
            for index, game in BAD_GAMES:
                self.assert_raises(BadGame, {"index": index}, call, function, game, "x")

    def test_states(self):
        for function in (*OF_STATE, shows_walk):
            for state in BAD_STATES:
                self.assert_raises(BadState, {}, call, function, PAIR, state)
                self.assert_raises(BadState, {}, call, function, NINE_WAYS, state)

    def test_bounds(self):
        for function in (*OF_GAME, *OF_STATE, shows_walk):
            for most, game, state in TOO_LARGE:
                self.assert_raises(TooMany, {"most": most}, call, function, game, state)
            call(function, THOUSAND_STATES, ((7,), (6, 0), (6, 3), (0, 5)))
            call(function, lanes_game(8, 2), ((0,), (7,)))


if __name__ == "__main__":
    unittest.main()
