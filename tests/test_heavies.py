"""Point 15: heavy games, states that stand in them, and rings where none does."""

import itertools
import random
import unittest

from tests.gamesupport import (ALONE, CROWD, MORE_STATES, NINE_WAYS, PAIR, RESTLESS, THOUSAND_STATES, better_steps_of,
                               chain_game, changed, lanes_game, plain, sample_heavy, standing_of, states_of)
from tests.support import INTEGER_WRONGS, Raising
from tollroads.errors import BadGame, BadWeights, TooMany
from tollroads.heavies import heavy_ring, heavy_standing, shows_heavy_ring
from tollroads.standings import standing_states

ALL = (heavy_standing, heavy_ring, shows_heavy_ring)
BOTH = (1, 2)


def call(function, weights, game):
    return function(weights, game, None) if function is shows_heavy_ring else function(weights, game)


def is_ring(weights, game, value):
    """Whether a tuple of states is a ring of better ways."""
    if len(value) < 2 or len(set(value)) < len(value):
        return False
    for one, other in zip(value, (*value[1:], *value[:1])):
        if other not in [changed(one, *step) for step in better_steps_of(game, weights, one)]:
            return False
    return True


def restless_games(seed, many):
    """So many pairs (weights, game) in which no state stands."""
    chance = random.Random(seed)
    found = [(BOTH, RESTLESS), ((2, 1), RESTLESS)]
    while len(found) < many:
        factor, more = chance.randint(1, 7), [chance.randint(0, 3) for _ in RESTLESS[1]]
        order = chance.sample(range(6), 6)
        roads = [(*road[:2], tuple(factor * cost + extra for cost in road[2]))
                 for road, extra in zip(RESTLESS[1], more)]
        game = (4, tuple(roads[at] for at in order), RESTLESS[2])
        weights = chance.choice((BOTH, (2, 1)))
        if not standing_of(game, weights):
            found.append((weights, game))
    return found


class HeavyTest(Raising, unittest.TestCase):
    def check(self, weights, game):
        standing = standing_of(game, weights)
        self.assert_same(heavy_standing(weights, game), tuple(sorted(standing)))
        value = heavy_ring(weights, game)
        if standing:
            self.assertIs(value, None)
        else:
            self.assertIs(type(value), tuple)
            self.assertTrue(is_ring(weights, game, value), (weights, game, value))
            self.assertIs(shows_heavy_ring(weights, game, value), True)
        self.assertIs(shows_heavy_ring(weights, game, None), bool(standing))

    def test_many_games(self):
        for weights, game in sample_heavy(71, 160):
            self.check(weights, game)

    def test_games_where_no_state_stands(self):
        for weights, game in restless_games(72, 20):
            self.assertEqual(standing_of(game, weights), [])
            self.check(weights, game)

    def test_another_player_beside_the_two(self):
        # The third player has a road of its own.
        roads = tuple((*road[:2], (*road[2], road[2][-1], road[2][-1], road[2][-1])) for road in RESTLESS[1])
        game = (5, (*roads, (0, 4, (1,) * 6), (0, 4, (1,) * 6)), (*RESTLESS[2], (0, 4)))
        self.check((1, 2, 3), game)
        self.assert_same(heavy_standing((1, 2, 3), game), ())

    def test_worked_out_by_hand(self):
        # On a road with costs 1, 3, 8 the heavier player alone takes 3, both together 8.
        game = (2, ((0, 1, (1, 3, 8)), (0, 1, (4, 5, 9))), ((0, 1), (0, 1)))
        self.assert_same(heavy_standing(BOTH, game), (((0,), (1,)), ((1,), (0,))))
        self.assert_same(heavy_standing((2, 1), game), (((0,), (1,)), ((1,), (0,))))
        # The heavier player, alone on the first road, would take 9, and with the other one on the second road 6.
        game = (2, ((0, 1, (1, 9, 9)), (0, 1, (0, 5, 6))), ((0, 1), (0, 1)))
        self.assert_same(heavy_standing(BOTH, game), (((0,), (1,)),))
        self.assert_same(heavy_standing((2, 1), game), (((1,), (0,)),))
        self.assert_same(heavy_standing(BOTH, RESTLESS), ())
        self.assert_same(heavy_standing((1, 1), (4, tuple((*r[:2], r[2][:2]) for r in RESTLESS[1]), RESTLESS[2])),
                         tuple(standing_of((4, tuple((*r[:2], r[2][:2]) for r in RESTLESS[1]), RESTLESS[2]), (1, 1))))

    def test_weights_of_one_make_a_plain_game(self):
        for _, game in sample_heavy(73, 40):
            game = (game[0], tuple((*road[:2], road[2][:len(game[2])]) for road in game[1]), game[2])
            self.assert_same(heavy_standing(plain(game), game), standing_states(game))
            self.assertIs(heavy_ring(plain(game), game), None)

    def test_one_player(self):
        for weight in (1, 2, 3):
            game = (2, ((0, 1, (9,) * (weight - 1) + (9,)), (0, 1, (0,) * (weight - 1) + (10,))), ((0, 1),))
            self.assert_same(heavy_standing((weight,), game), (((0,),),))
            self.assertIs(heavy_ring((weight,), game), None)

    def test_a_time_that_stays_equal_is_not_better(self):
        game = (2, ((0, 1, (1, 1, 1)), (0, 1, (1, 1, 1))), ((0, 1), (0, 1)))
        self.assertEqual(len(heavy_standing(BOTH, game)), 4)


class ShowsRingTest(Raising, unittest.TestCase):
    def test_other_right_rings(self):
        for weights, game in restless_games(74, 6):
            ring = heavy_ring(weights, game)
            for at in range(len(ring)):
                self.assertIs(shows_heavy_ring(weights, game, ring[at:] + ring[:at]), True)
            for value in self.found_rings(weights, game):
                self.assertIs(shows_heavy_ring(weights, game, value), True)

    def found_rings(self, weights, game):
        """The rings that are met from all states, with the last better step each time."""
        for state in states_of(game):
            met = []
            while state not in met:
                met.append(state)
                state = changed(state, *better_steps_of(game, weights, state)[-1])
            yield tuple(met[met.index(state):])

    def test_near_values(self):
        for weights, game in restless_games(75, 4):
            ring = heavy_ring(weights, game)
            known = states_of(game)
            values = [ring[1:], ring[:-1], ring[::-1], ring * 2, (*ring, ring[0]), ring[:1], ring[:2], ()]
            for at in range(len(ring)):
                values += [(*ring[:at], state, *ring[at + 1:]) for state in known]
                values += [(*ring[:at], state, *ring[at:]) for state in known]
            values += [pair for pair in itertools.permutations(known, 2)]
            for value in values:
                self.assertIs(shows_heavy_ring(weights, game, value), is_ring(weights, game, value), value)

    def test_the_times_of_heavy_players(self):
        # With the weights exchanged the ring goes round the other way or not at all.
        ring = heavy_ring(BOTH, RESTLESS)
        self.assertIs(shows_heavy_ring(BOTH, RESTLESS, ring), True)
        self.assertIs(shows_heavy_ring((2, 1), RESTLESS, ring), False)
        turned = tuple(state[::-1] for state in ring)
        self.assertIs(shows_heavy_ring((2, 1), RESTLESS, turned), True)

    def test_values_of_all_kinds(self):
        ring = heavy_ring(BOTH, RESTLESS)
        for value in (*INTEGER_WRONGS, None, [*ring], ring[0], ([*ring[0]], *ring[1:]), (None, *ring[1:]),
                      (ring[0][:1], *ring[1:]), ((*ring[0], (5,)), *ring[1:]), {0: ring}, dict(enumerate(ring)),
                      tuple(tuple(tuple(bool(road) if road < 2 else road for road in way) for way in state)
                            for state in ring), (ring,), ((), ()), (None, None), ([], {}), ((5,), (5,)),
                      (((5,), [5]), *ring[1:]), (((5,), None), *ring[1:])):
            self.assertIs(shows_heavy_ring(BOTH, RESTLESS, value), False, value)
        self.assertIs(shows_heavy_ring((1,), ALONE, None), True)
        for value in (*INTEGER_WRONGS, (((0,),),), (((0,),), ((0,),))):
            if value is not None:
                self.assertIs(shows_heavy_ring((1,), ALONE, value), False, value)


class WrongTest(Raising, unittest.TestCase):
    def test_weights(self):
        for weights in (*INTEGER_WRONGS, [1, 2], (0, 1), (1, 4), (4,), (-1, 1), (True, 2), (1, True), (1, "2"), "12",
                        (1, None), ((1,), (2,)), (1, 2, 3, 1, 2), (1,) * 5, {1: 2}, (1, [2]), (1, {}), 1, 2):
            for function in ALL:
                self.assert_raises(BadWeights, {}, call, function, weights, RESTLESS)
                self.assert_raises(BadWeights, {}, call, function, weights, "x")

    def test_bounds_of_weights(self):
        for weights in ((1,), (3,), (1, 3), (3, 3, 3, 3), (1, 1, 1, 1)):
            game = lanes_game(2, len(weights), sum(weights))
            self.assertTrue(heavy_standing(weights, game))
            self.assertIs(heavy_ring(weights, game), None)
            for more in (-1, 1):
                game = lanes_game(2, len(weights), sum(weights) + more)
                for function in ALL:
                    self.assert_raises(BadGame, {"index": 0}, call, function, weights, game)

    def test_games(self):
        roads = RESTLESS[1]
        for function in ALL:
            for index, game in (
                    (None, None), (None, "x"), (None, [*RESTLESS]), (None, RESTLESS[:2]), (None, (4, (), RESTLESS[2])),
                    (None, (4, roads * 2, RESTLESS[2])), (None, (7, *RESTLESS[1:])), (None, (4, roads, ())),
                    (None, (4, roads, ((0, 3),))), (None, (4, roads, ((0, 3),) * 3)), (None, (4, ("x",), ((0, 3),))),
                    (None, (4, roads, [(0, 3), (0, 3)])), (0, (4, ("x", *roads[1:]), ("x", "x"))),
                    (2, (4, (*roads[:2], (0, 2, (45, 48)), *roads[3:]), RESTLESS[2])),
                    (2, (4, (*roads[:2], (0, 2, (45, 48, 48, 50)), *roads[3:]), RESTLESS[2])),
                    (5, (4, (*roads[:5], (0, 3, (45, 44, 48))), RESTLESS[2])),
                    (5, (4, (*roads[:5], (0, 3, (45, 48, True))), RESTLESS[2])), (6, (4, roads, ("x", (0, 3)))),
                    (7, (4, roads, ((0, 3), (3, 0)))), (7, (4, roads, ((0, 3), (3, 3)))), (0, PAIR), (None, CROWD)):
                self.assert_raises(BadGame, {"index": index}, call, function, BOTH, game)

    def test_bounds(self):
        def heavier(game, entries):
            return (game[0], tuple((*road[:2], (1,) * entries) for road in game[1]), game[2])

        for function in ALL:
            self.assert_raises(TooMany, {"most": 8}, call, function, (1, 2), heavier(NINE_WAYS, 3))
            self.assert_raises(TooMany, {"most": 8}, call, function, (3, 1, 1, 2),
                               heavier(chain_game((4, 3), ((0, 1),) * 3 + ((0, 2),)), 7))
            self.assert_raises(TooMany, {"most": 1000}, call, function, (1, 1, 1, 3), heavier(MORE_STATES, 6))
            self.assert_raises(TooMany, {"most": 1000}, call, function, (3, 3, 3, 3), lanes_game(8, 4, 12))
            self.assert_raises(BadGame, {"index": 0}, call, function, (3, 3, 3, 3), lanes_game(8, 4, 11))
        # Three players take the one way of a single road, the fourth one any of eight alike.
        self.assertEqual(len(heavy_standing((2, 1, 1, 1), heavier(THOUSAND_STATES, 5))), 8)
        self.assertIs(heavy_ring((2, 1, 1, 1), heavier(THOUSAND_STATES, 5)), None)
        self.assertTrue(heavy_standing((1, 3, 2), lanes_game(8, 3, 6)))


if __name__ == "__main__":
    unittest.main()
