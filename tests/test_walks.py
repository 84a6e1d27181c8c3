"""Point 22: the shortest walks to states that stand, and the longest walks of all."""

import unittest
from functools import lru_cache

from tests.gamesupport import (ALONE, BAD_GAMES, BAD_STATES, CROWD, FREE, NINE_WAYS, ONE, PAIR, THOUSAND_STATES,
                               TOO_LARGE, better_steps_of, chain_game, changed, lanes_game, plain, sample_games,
                               states_of, tables_of)
from tests.support import INTEGER_WRONGS, Raising
from tollroads.errors import BadGame, BadState, TooMany
from tollroads.walks import fewest_steps, longest_walk, shows_longest

GAMES = (PAIR, ONE, ALONE, FREE, CROWD, lanes_game(4, 2), lanes_game(3, 3), lanes_game(2, 4),
         chain_game((2, 2), ((0, 2), (0, 2), (1, 2), (0, 1))))


@lru_cache(maxsize=None)
def steps_of(game):
    """For each state all better steps, with the states they lead to."""
    return {state: [(step, changed(state, *step)) for step in better_steps_of(game, plain(game), state)]
            for state in states_of(game)}


def longest_of(game):
    """For each state how many steps the longest walk from it has, reckoned again until nothing grows."""
    most = {state: 0 for state in steps_of(game)}
    while True:
        grown = {state: max([0, *[1 + most[after] for _, after in steps]]) for state, steps in steps_of(game).items()}
        if grown == most:
            return most
        most = grown


def fewest_of(game):
    """For each state how many steps the shortest walk from it has, reckoned again until nothing falls."""
    least = {state: len(steps_of(game)) if steps else 0 for state, steps in steps_of(game).items()}
    while True:
        fallen = {state: min([least[state], *[1 + least[after] for _, after in steps]])
                  for state, steps in steps_of(game).items()}
        if fallen == least:
            return least
        least = fallen


def is_walk(game, state, value):
    for step in value:
        after = dict(steps_of(game)[state]).get(step)
        if after is None:
            return False
        state = after
    return not steps_of(game)[state]


def longest_walks(game, state, most):
    """All walks with this number of steps from a state, which is as many as any has."""
    if most == 0:
        return [()]
    lengths = longest_of(game)
    return [(step, *rest) for step, after in steps_of(game)[state] if lengths[after] == most - 1
            for rest in longest_walks(game, after, most - 1)]


class FewestTest(Raising, unittest.TestCase):
    def check(self, game):
        wanted = fewest_of(game)
        for state in states_of(game)[::3]:
            value = fewest_steps(game, state)
            self.assertEqual((type(value), len(value)), (tuple, 2))
            self.assertEqual((type(value[0]), value[0]), (int, wanted[state]))
            self.assertEqual((type(value[1]), len(value[1])), (tuple, wanted[state]))
            self.assertTrue(is_walk(game, state, value[1]), (game, state, value))
        return max(wanted.values())

    def test_many_games(self):
        found = [self.check(game) for game in sample_games(101, 100)]
        self.assertEqual(sorted(set(found))[:4], [0, 1, 2, 3])

    def test_known_games(self):
        for game in GAMES:
            self.check(game)

    def test_no_step(self):
        self.assert_same(fewest_steps(ONE, ((0,),)), (0, ()))
        self.assert_same(fewest_steps(ALONE, ((0,),)), (0, ()))
        self.assert_same(fewest_steps(PAIR, ((0, 1), (2,))), (0, ()))

    def test_a_longer_walk_is_left(self):
        # Three steps from road to road, or one at once.
        game = (2, tuple((0, 1, (cost,)) for cost in (1, 2, 3, 4)), ((0, 1),))
        self.assert_same(fewest_steps(game, ((3,),)), (1, ((0, (0,)),)))
        self.assert_same(longest_walk(game), (((3,),), ((0, (2,)), (0, (1,)), (0, (0,)))))
        self.assert_same(fewest_steps(lanes_game(2, 2), ((1,), (1,)))[0], 1)


class LongestTest(Raising, unittest.TestCase):
    def check(self, game):
        wanted = longest_of(game)
        most = max(wanted.values())
        value = longest_walk(game)
        self.assertEqual((type(value), len(value)), (tuple, 2))
        state, walk = value
        self.assertEqual((type(walk), len(walk)), (tuple, most))
        self.assertTrue(is_walk(game, state, walk), (game, value))
        self.assertIs(shows_longest(game, value), True)
        return most

    def test_many_games(self):
        found = [self.check(game) for game in sample_games(102, 100)]
        self.assertGreater(max(found), 8)
        self.assertIn(0, found)

    def test_known_games(self):
        for game in GAMES:
            self.check(game)

    def test_all_longest_walks_are_shown(self):
        for game in [*GAMES, *sample_games(103, 30)]:
            lengths = longest_of(game)
            most = max(lengths.values())
            for state in [state for state in lengths if lengths[state] == most][:6]:
                for walk in longest_walks(game, state, most)[:20]:
                    self.assertIs(shows_longest(game, (state, walk)), True)

    def test_near_values(self):
        for game in [*GAMES, *sample_games(104, 30)]:
            most = max(longest_of(game).values())
            state, walk = longest_walk(game)
            for near in self.near(game, state, walk):
                wanted = near[0] in steps_of(game) and len(near[1]) == most and is_walk(game, *near)
                self.assertIs(shows_longest(game, near), wanted, (game, near))

    def near(self, game, state, walk):
        yield from ((state, walk[:-1]), (state, walk[1:]), (state, walk[::-1]), (state, (*walk, *walk[-1:])))
        yield (walk, state)
        if walk:
            yield (changed(state, *walk[0]), walk[1:])
        for other in states_of(game)[::4]:
            yield (other, walk)
        for at in range(len(walk)):
            for player, table in enumerate(tables_of(game)):
                for way in table:
                    yield (state, (*walk[:at], (player, way), *walk[at + 1:]))

    def test_a_game_without_any_step(self):
        for game in (ALONE, (2, ((0, 1, (3,)), (0, 1, (3,))), ((0, 1),))):
            state, walk = longest_walk(game)
            self.assert_same(walk, ())
            for other in states_of(game):
                self.assertIs(shows_longest(game, (other, ())), True)
            self.assertIs(shows_longest(game, (state, ((0, (0,)),))), False)

    def test_a_shorter_walk_is_refused(self):
        game = (2, tuple((0, 1, (cost,)) for cost in (1, 2, 3, 4)), ((0, 1),))
        self.assertIs(shows_longest(game, (((3,),), ((0, (2,)), (0, (1,)), (0, (0,))))), True)
        for near in (((3,),), ((0, (0,)),)), (((3,),), ((0, (2,)), (0, (0,)))), (((2,),), ((0, (1,)), (0, (0,)))):
            self.assertIs(shows_longest(game, near), False)

    def test_values_of_all_kinds(self):
        right = (((1,),), ((0, (0,)),))
        self.assertIs(shows_longest(ONE, right), True)
        for value in (*INTEGER_WRONGS, [*right], right[:1], (*right, ()), right[::-1], {0: right}, (right, right),
                      ([(1,)], right[1]), (([1],), right[1]), (((True,),), right[1]), (None, right[1]),
                      (right[0], None), (right[0], [*right[1]]), (right[0], ([0, (0,)],)), (right[0], ((0, [0]),)),
                      (right[0], ((False, (0,)),)), (right[0], ((0, (False,)),)), (right[0], ((0, (1,)),)),
                      (right[0], ((1, (0,)),)), (right[0], ((-1, (0,)),)), (right[0], ()), (right[0], (None,)),
                      (((0,),), right[1]), (((0,),), ()), (((1,), (1,)), right[1]), ({}, {}), ((), ())):
            self.assertIs(shows_longest(ONE, value), False, value)

    def test_a_thousand_states(self):
        self.check(THOUSAND_STATES)
        self.check(lanes_game(8, 3))


class WrongTest(Raising, unittest.TestCase):
    def call(self, function, game, state):
        if function is fewest_steps:
            return function(game, state)
        return function(game) if function is longest_walk else function(game, state)

    def test_games(self):
        for function in (fewest_steps, longest_walk, shows_longest):
            for index, game in BAD_GAMES:
                self.assert_raises(BadGame, {"index": index}, self.call, function, game, "x")

    def test_states(self):
        for state in BAD_STATES:
            self.assert_raises(BadState, {}, fewest_steps, PAIR, state)
            self.assert_raises(BadState, {}, fewest_steps, NINE_WAYS, state)

    def test_bounds(self):
        for function in (fewest_steps, longest_walk, shows_longest):
            for most, game, state in TOO_LARGE:
                self.assert_raises(TooMany, {"most": most}, self.call, function, game, state)
            self.call(function, THOUSAND_STATES, ((7,), (6, 0), (6, 3), (0, 5)))


if __name__ == "__main__":
    unittest.main()
